import PyProof.Rows.All
import Wide.All
import OpenK.AllK
import Wide.FinOn
import Lean
import PyProof.EqAt
import PyProof.EqKinds
import PyProof.TupleCall
import PyProof.EqLayable
import PyProof.ExcArgsOwn
import PyProof.ExcAttrAll.Exception
import PyProof.RulesAs
import PyProof.ExcBaseAll.ValueError
import PyProof.NsDelKeeps
import KE.KRevSl
import OpenK.KOps
import OpenK.KWalk
import PyProof.DictUpdate
import PyProof.DictTruth
import PyProof.DictDisplay
import KE.KDictOf
import PyProof.AttrMissSeq
import PyProof.WalksS
import PySem.Challenge.RW_fewnotes_k43_whole_records_turned_about
set_option Elab.async false
set_option linter.all false
set_option maxRecDepth 100000
/-! THE HAND LAYER, for ints, bools, texts, own classes, LISTS and tuples (index, slices, in, append, pop ..), calls, loops. Paste it whole ahead of your own text; what your proof does not reach may be deleted. -/
namespace L2
open PySem PySem.Spec PyProof.Rows

/-- a key: an int or a str -/
abbrev Key := Sum Int Str
def keyIs : Key → Value → Bool
  | .inl k, v => Value.isInt k v
  | .inr x, v => Value.isStrOf x v
def keyH (w : World) : Key → Int
  | .inl k => hashInt k
  | .inr x => hashStr w x
theorem keyIs_shape : ∀ {k : Key} {v : Value}, keyIs k v = true → (∃ i t, k = Sum.inl i ∧ v = Value.int i t) ∨ (∃ x t, k = Sum.inr x ∧ v = Value.str x t)
  | .inl i, v, h => by
    obtain ⟨t, e⟩ := Value.isInt_shape (k := i) (v := v) h
    exact .inl ⟨i, t, rfl, e⟩
  | .inr x, v, h => by
    obtain ⟨t, e⟩ := Value.isStrOf_shape (x := x) (v := v) h
    exact .inr ⟨x, t, rfl, e⟩
theorem keyIs_int (i : Int) (t : Tok) : keyIs (.inl i) (.int i t) = true := by simp [keyIs, Value.isInt]
theorem keyIs_str (x : Str) (t : Tok) : keyIs (.inr x) (.str x t) = true := by simp [keyIs, Value.isStrOf]
theorem key_ll (a b : Int) : decide ((Sum.inl a : Key) = Sum.inl b) = (a == b) := by
  by_cases e : a = b
  · subst e; simp
  · have h : ¬ (Sum.inl a : Key) = Sum.inl b := fun q => e (Sum.inl.inj q)
    rw [decide_eq_false h]
    exact (beq_eq_false_iff_ne.mpr e).symm
theorem key_rr (a b : Str) : decide ((Sum.inr a : Key) = Sum.inr b) = decide (a = b) := by
  by_cases e : a = b
  · subst e; simp
  · have h : ¬ (Sum.inr a : Key) = Sum.inr b := fun q => e (Sum.inr.inj q)
    rw [decide_eq_false h, decide_eq_false e]
theorem key_lr (a : Int) (b : Str) : decide ((Sum.inl a : Key) = Sum.inr b) = false := decide_eq_false (fun q => nomatch q)
theorem key_rl (a : Str) (b : Int) : decide ((Sum.inr a : Key) = Sum.inl b) = false := decide_eq_false (fun q => nomatch q)

def mixKind (prog : Program) (w : World) : PySem.KeyKind prog w Key where
  is := keyIs
  hash := keyH w
  inj := fun v a b ha hb => by
    rcases keyIs_shape ha with ⟨i, t, rfl, rfl⟩ | ⟨x, t, rfl, rfl⟩
    · rcases keyIs_shape hb with ⟨j, u, rfl, e⟩ | ⟨y, u, rfl, e⟩
      · injection e with e1 _; rw [e1]
      · exact nomatch e
    · rcases keyIs_shape hb with ⟨j, u, rfl, e⟩ | ⟨y, u, rfl, e⟩
      · exact nomatch e
      · injection e with e1 _; rw [e1]
  byValue := fun k v h => by
    rcases keyIs_shape h with ⟨i, t, rfl, rfl⟩ | ⟨x, t, rfl, rfl⟩ <;> rfl
  pyHash := fun hv h => by
    rcases keyIs_shape hv with ⟨i, t, rfl, rfl⟩ | ⟨x, t, rfl, rfl⟩
    · exact wpAny_pyHash_int h
    · exact wpAny_pyHash_str h
  eqBool := fun hu hv h => by
    rcases keyIs_shape hu with ⟨i, t, rfl, rfl⟩ | ⟨x, t, rfl, rfl⟩
    · rcases keyIs_shape hv with ⟨j, u, rfl, rfl⟩ | ⟨y, u, rfl, rfl⟩
      · rw [key_ll] at h; exact wpAny_eqBool_int h
      · rw [key_lr] at h; exact SeqAt.EqAt.int_str i t y u _ _ _ _ h
    · rcases keyIs_shape hv with ⟨j, u, rfl, rfl⟩ | ⟨y, u, rfl, rfl⟩
      · rw [key_rl] at h; exact SeqAt.EqAt.str_int x t j u _ _ _ _ h
      · rw [key_rr] at h; exact wpAny_eqBool_str h
  «strs» := fun k x t v h => by
    rcases keyIs_shape h with ⟨i, u, rfl, e⟩ | ⟨y, u, rfl, e⟩
    · exact nomatch e
    · injection e with e1 _
      subst e1
      cases v <;> rfl

theorem mixKind_int (prog : Program) (w : World) (i : Int) (t : Tok) : (mixKind prog w).is (.inl i) (.int i t) = true := keyIs_int i t
theorem mixKind_str (prog : Program) (w : World) (x : Str) (t : Tok) : (mixKind prog w).is (.inr x) (.str x t) = true := keyIs_str x t
end L2

namespace L2
open PySem PySem.Spec PyProof.Rows

/-- a value, without the heap -/
inductive V where
  | non | bl (b : Bool) | int (i : Int) | str (x : Str) | byt (b : Array UInt8) | flt (b : UInt64) | ref (a : Addr) | ty (n : String)
  deriving DecidableEq

def RelV : V → Value → Prop
  | .non, u => u = Value.none
  | .bl b, u => u = Value.bool b
  | .int i, u => ∃ t, u = Value.int i t
  | .str x, u => ∃ t, u = Value.str x t
  | .byt b, u => ∃ t, u = Value.bytes b t
  | .flt b, u => ∃ t, u = Value.float b t
  | .ref a, u => u = Value.ref a
  | .ty n, u => u = Value.type n

abbrev Vals : List V → List Value → Prop := Paired RelV
theorem Vals.length {xs : List V} {us : List Value} (r : Vals xs us) : xs.length = us.length := Paired.length r
theorem Vals.get : ∀ {xs : List V} {us : List Value} {i : Nat} {x : V}, Vals xs us → xs[i]? = some x → ∃ u, us[i]? = some u ∧ RelV x u
  | _, _, _, _, .nil, e => by simp at e
  | _, _, 0, _, .cons r _, e => by simp at e; subst e; exact ⟨_, rfl, r⟩
  | _, _, i + 1, x, .cons _ t, e => by
    obtain ⟨u, h1, h2⟩ := Vals.get (i := i) (x := x) t (by simpa using e)
    exact ⟨u, by simpa using h1, h2⟩
theorem Vals.set {x : V} {u : Value} (r : RelV x u) : ∀ {xs : List V} {us : List Value} (i : Nat), Vals xs us → Vals (xs.set i x) (us.set i u)
  | _, _, _, .nil => .nil
  | _, _, 0, .cons _ t => .cons r t
  | _, _, i + 1, .cons q t => .cons q (Vals.set r i t)
theorem Vals.append {xs ys : List V} {us ws : List Value} (h : Vals xs us) (s : Vals ys ws) : Vals (xs ++ ys) (us ++ ws) := by
  induction h with
  | nil => exact s
  | cons r t ih => exact .cons r ih
theorem Vals.take : ∀ {xs : List V} {us : List Value} (n : Nat), Vals xs us → Vals (xs.take n) (us.take n)
  | _, _, 0, _ => .nil
  | _, _, _ + 1, .nil => .nil
  | _, _, n + 1, .cons r t => .cons r (Vals.take n t)
theorem Vals.drop : ∀ {xs : List V} {us : List Value} (n : Nat), Vals xs us → Vals (xs.drop n) (us.drop n)
  | _, _, 0, r => r
  | _, _, _ + 1, .nil => .nil
  | _, _, n + 1, .cons _ t => Vals.drop n t
def RelO : Option V → Option Value → Prop
  | some v, some u => RelV v u
  | none, none => True
  | _, _ => False
def KV {κ : Type} : List (κ × V) → List (κ × Value) → Prop := Paired fun (p : κ × V) (q : κ × Value) => p.1 = q.1 ∧ RelV p.2 q.2

/-- a key of a dict (00_mix): an int or a text -/
def kV : Key → V
  | .inl i => .int i
  | .inr x => .str x

/-- what stands at a tracked address -/
inductive HO where
  /-- a list -/
  | lst (xs : List V)
  /-- a tuple (never changes) -/
  | tup (xs : List V)
  /-- a dict whose keys are ints and texts; one whose keys are tuples of ints and texts (the empty one is both) -/
  | dK (kvs : List (Key × V)) | dT (kvs : List (List Key × V))
  /-- a set of ints: its members, its size -/
  | set (S : Int → Bool) (n : Nat)
  /-- an instance of the class at C, its dict at dx, its attributes -/
  | ins (C dx : Addr) (fs : List (Str × V))
  /-- the dict of the instance at x -/
  | own (x : Addr)
  /-- the dict of an exception -/
  | xd (fs : List (Str × V))
  /-- a bound method, f of x -/
  | met (f x : Addr)
  /-- a range object lo, lo + 1, .. below hi -/
  | rng (lo hi : Int)
  /-- a thing that is known to the object (the script; a dict while a loop walks it): read, never written while it is so -/
  | frz (o : Obj) (u : HO)
  /-- a code object's table -/
  | tbl (ps : Array Value)
  /-- any other thing, by what is true of its one object (a def of one's own: SetO a S n := HO.ext fun h => ..) -/
  | ext (φ : Heap → Prop)

abbrev Hp := Addr → Option HO
def upd (H : Hp) (a : Addr) (o : HO) : Hp := fun b => if b = a then some o else H b
theorem upd_same {H : Hp} {a : Addr} {o : HO} : upd H a o a = some o := by unfold upd; rw [if_pos rfl]
theorem upd_ne {H : Hp} {a b : Addr} {o : HO} (h : b ≠ a) : upd H a o b = H b := by unfold upd; rw [if_neg h]
/-- two objects of different content stand apart -/
theorem ne_of {H : Hp} {a b : Addr} {o u : HO} (h : H a = some o) (h' : H b = some u) (d : o ≠ u) : a ≠ b := by
  intro e; subst e; rw [h] at h'; exact d (Option.some.inj h')
theorem ne_of_none {H : Hp} {a b : Addr} {o : HO} (h : H a = some o) (h' : H b = none) : a ≠ b := by
  intro e; subst e; rw [h] at h'; cases h'

section
variable (P : Program) (w : World)
def ObjOk (H : Hp) (h : Heap) (a : Addr) : HO → Prop
  | .lst xs => xs.length ≤ sizeLine ∧ ∃ (its : List Value) (n : Nat), Vals xs its ∧ h.get? a = some { cls := .type "list", data := .seq its.toArray n }
  | .tup xs => xs.length ≤ sizeLine ∧ ∃ its : List Value, Vals xs its ∧ IsTup h a its.toArray
  | .dK kvs => kvs.length ≤ sizeLine ∧ (a == sysModules) = false ∧ ∃ vs, KV kvs vs ∧ h.DictOf (mixKind P w) a vs
  | .dT kvs => kvs.length ≤ sizeLine ∧ (a == sysModules) = false ∧ ∃ xs : List (List Key × Addr × Value),
      Paired (fun (p : List Key × V) (q : List Key × Addr × Value) => p.1 = q.1 ∧ H q.2.1 = some (.tup (p.1.map kV)) ∧ RelV p.2 q.2.2) kvs xs ∧
      ∃ o es ep, h.get? a = some o ∧ o.ExactDict ∧ o.data = .dict es ep ∧ es.toList = xs.map (entryOfKey (tupleKind (mixKind P w))) ∧ (xs.map (·.1)).Nodup
  | .set S n => h.SetOf (intKind P w) a S n
  | .ins C dx fs => H dx = some (.own a) ∧ fs.length ≤ 1000 ∧ dx ≠ a ∧ h.get? a = some (PySem.W.instObj C dx) ∧
      ∃ mA, h.Ns1 dx mA ∧ (∀ f, RelO (fs.lookup f) (mA f)) ∧ PySem.Within mA (fs.map (·.1))
  | .own _ => ∃ o, h.get? a = some o
  | .xd fs => ∃ mA, h.Ns1 a mA ∧ ∀ f, RelO (fs.lookup f) (mA f)
  | .rng lo hi => ∃ t u v, h.get? a = some { cls := .type "range", data := .fields #[.int lo t, .int hi u, .int 1 v] }
  | .frz o u => h.get? a = some o ∧ ObjOk H h a u
  | .tbl ps => h.get? a = some { cls := .none, data := .fields ps }
  | .met f x => h.get? a = some (PySem.W.methodObj (.ref f) (.ref x))
  | .ext φ => φ h ∧ (∃ o, h.get? a = some o) ∧ ∀ h1 h2 : Heap, φ h1 → (∀ o, h1.get? a = some o → h2.get? a = some o) → φ h2
/-- the abstract heap is held -/
def HOk (H : Hp) (h : Heap) : Prop := ∀ a o, H a = some o → ObjOk P w H h a o
end

section
variable {P : Program} {w : World} {H H' : Hp} {h h' : Heap} {a : Addr} {o : HO}
theorem ObjOk.lt (x : ObjOk P w H h a o) : a < h.objs.size := by
  cases o with
  | lst xs => obtain ⟨_, _, _, _, e⟩ := x; exact Heap.lt_size e
  | tup xs => obtain ⟨_, _, _, p⟩ := x; exact p.lt
  | dK kvs => obtain ⟨_, _, _, _, o, _, _, e, _⟩ := x; exact Heap.lt_size e
  | dT kvs => obtain ⟨_, _, _, _, o, _, _, e, _⟩ := x; exact Heap.lt_size e
  | set S n => obtain ⟨o, _, _, _, e, _⟩ := x; exact Heap.lt_size e
  | ins C dx fs => obtain ⟨_, _, _, e, _⟩ := x; exact Heap.lt_size e
  | own y => obtain ⟨_, e⟩ := x; exact Heap.lt_size e
  | xd fs => obtain ⟨_, ⟨_, _, _, e, _⟩, _⟩ := x; exact Heap.lt_size e
  | rng lo hi => obtain ⟨_, _, _, e⟩ := x; exact Heap.lt_size e
  | frz ob u => obtain ⟨e, _⟩ := x; exact Heap.lt_size e
  | tbl ps => exact Heap.lt_size (show h.get? a = some _ from x)
  | met f y => exact Heap.lt_size (show h.get? a = some _ from x)
  | ext φ => obtain ⟨_, ⟨_, e⟩, _⟩ := x; exact Heap.lt_size e
theorem Paired.mapP {α β : Type} {F G : α → β → Prop} : ∀ {l₁ : List α} {l₂ : List β}, Paired F l₁ l₂ → (∀ a b, F a b → G a b) → Paired G l₁ l₂
  := by
  intro l₁ l₂ h f
  induction h with
  | nil => exact .nil
  | cons r t ih => exact .cons (f _ _ r) ih
/-- what an object's description leans on: its own object, its own dict, the tuples -/
theorem ObjOk.stay (x : ObjOk P w H h a o) (k : ∀ b u, (b = a ∨ H b = some (.own a)) → h.get? b = some u → h'.get? b = some u)
    (ho : ∀ b, H b = some (.own a) → H' b = some (.own a)) (ht : ∀ b xs, H b = some (.tup xs) → H' b = some (.tup xs)) : ObjOk P w H' h' a o := by
  induction o with
  | lst xs => obtain ⟨z, its, n, r, e⟩ := x; exact ⟨z, its, n, r, k _ _ (.inl rfl) e⟩
  | tup xs => obtain ⟨z, its, r, ob, e, c⟩ := x; exact ⟨z, its, r, ob, k _ _ (.inl rfl) e, c⟩
  | dK kvs => obtain ⟨z, y, vs, r, ob, es, ep, e, c⟩ := x; exact ⟨z, y, vs, r, ob, es, ep, k _ _ (.inl rfl) e, c⟩
  | dT kvs =>
    obtain ⟨z, y, xs, r, ob, es, ep, e, c⟩ := x
    exact ⟨z, y, xs, Paired.mapP r fun p q z => ⟨z.1, ht _ _ z.2.1, z.2.2⟩, ob, es, ep, k _ _ (.inl rfl) e, c⟩
  | set S n => obtain ⟨ob, es, ep, t, e, c⟩ := x; exact ⟨ob, es, ep, t, k _ _ (.inl rfl) e, c⟩
  | ins C dx fs =>
    obtain ⟨d, z, ne, e, mA, ⟨od, es, ep, e2, c⟩, r⟩ := x
    exact ⟨ho _ d, z, ne, k _ _ (.inl rfl) e, mA, ⟨od, es, ep, k _ _ (.inr d) e2, c⟩, r⟩
  | own y => obtain ⟨ob, e⟩ := x; exact ⟨ob, k _ _ (.inl rfl) e⟩
  | xd fs => obtain ⟨mA, ⟨od, es, ep, e, c⟩, r⟩ := x; exact ⟨mA, ⟨od, es, ep, k _ _ (.inl rfl) e, c⟩, r⟩
  | rng lo hi => obtain ⟨t, u, v, e⟩ := x; exact ⟨t, u, v, k _ _ (.inl rfl) e⟩
  | frz ob u ih => obtain ⟨e, q⟩ := x; exact ⟨k _ _ (.inl rfl) e, ih q⟩
  | tbl ps =>
    have e : h.get? a = some { cls := .none, data := .fields ps } := x
    show h'.get? a = some { cls := .none, data := .fields ps }
    exact k a _ (.inl rfl) e
  | met f y =>
    have e : h.get? a = some (PySem.W.methodObj (.ref f) (.ref y)) := x
    show h'.get? a = some (PySem.W.methodObj (.ref f) (.ref y))
    exact k a _ (.inl rfl) e
  | ext φ => obtain ⟨p, ⟨o, e⟩, st⟩ := x; exact ⟨st _ _ p fun o q => k _ _ (.inl rfl) q, ⟨o, k _ _ (.inl rfl) e⟩, st⟩
theorem HOk.lt (x : HOk P w H h) (e : H a = some o) : a < h.objs.size := (x a o e).lt
theorem HOk.fresh (x : HOk P w H h) (e : h.objs.size ≤ a) : H a = none := by
  cases q : H a with
  | none => rfl
  | some u => exact absurd (Nat.lt_of_lt_of_le (x.lt q) e) (Nat.lt_irrefl _)
/-- every object of the heap is kept -/
theorem HOk.kept (x : HOk P w H h) (k : ∀ b u, h.get? b = some u → h'.get? b = some u) : HOk P w H h' := fun a o e =>
  (x a o e).stay (fun b u _ q => k b u q) (fun _ q => q) fun _ _ q => q
/-- a new object is laid and tracked -/
theorem HOk.laid (x : HOk P w H h) (k : ∀ b u, h.get? b = some u → h'.get? b = some u) (hp : h.objs.size ≤ a) (new : ObjOk P w (upd H a o) h' a o) : HOk P w (upd H a o) h' := fun b u e => by
  have hn := x.fresh hp
  by_cases hb : b = a
  · subst hb; rw [upd_same] at e; cases e; exact new
  · rw [upd_ne hb] at e
    exact (x b u e).stay (fun c v _ q => k c v q) (fun c q => by rw [upd_ne (ne_of_none q hn)]; exact q) fun c xs q => by rw [upd_ne (ne_of_none q hn)]; exact q
end

/-- what may be read as u: it is u, or a known u -/
def Rd (H : Hp) (a : Addr) (u : HO) : Prop := H a = some u ∨ ∃ o, H a = some (.frz o u)
theorem Rd.ok {P : Program} {w : World} {H : Hp} {h : Heap} {a : Addr} {u : HO} (r : Rd H a u) (x : HOk P w H h) : ObjOk P w H h a u := by
  rcases r with r | ⟨o, r⟩
  · exact x a u r
  · obtain ⟨_, q⟩ := x a _ r
    exact q
/-- what may be written -/
def Mut : Option HO → Prop
  | some (.lst _) => True
  | some (.dK _) => True
  | some (.dT _) => True
  | some (.set _ _) => True
  | some (.ins _ _ _) => True
  | some (.ext _) => True
  | _ => False
section
variable {P : Program} {w : World} {H : Hp} {h h' : Heap} {x e : Addr} {o' : HO}
/-- the object at e is changed: x itself, or the dict of the instance x -/
theorem HOk.write (ok : HOk P w H h) (mu : Mut (H x)) (he : e = x ∨ H e = some (.own x)) (k : ∀ b u, b ≠ e → h.get? b = some u → h'.get? b = some u) (heo : ∃ u, h'.get? e = some u)
    (new : ObjOk P w (upd H x o') h' x o') : HOk P w (upd H x o') h' := fun b u q => by
  have nown : ∀ c y, H c = some (.own y) → c ≠ x := fun c y r z => by subst z; rw [r] at mu; exact mu
  have ntup : ∀ c xs, H c = some (.tup xs) → c ≠ x := fun c xs r z => by subst z; rw [r] at mu; exact mu
  by_cases hb : b = x
  · subst hb; rw [upd_same] at q; cases q; exact new
  · rw [upd_ne hb] at q
    by_cases hbe : b = e
    · have q' : H b = some (.own x) := by
        rcases he with z | z
        · exact absurd (hbe.trans z) hb
        · rw [hbe]; exact z
      rw [q] at q'; cases q'
      obtain ⟨v, hv⟩ := heo
      exact ⟨v, by rw [hbe]; exact hv⟩
    · refine (ok b u q).stay (fun c v hc r => k c v ?_ r) (fun c r => by rw [upd_ne (nown c b r)]; exact r) fun c xs r => by rw [upd_ne (ntup c xs r)]; exact r
      rcases hc with rfl | hc
      · exact hbe
      · rintro rfl
        rcases he with z | z
        · exact nown c b hc z
        · rw [hc] at z; cases z; exact hb rfl
end

/-! ### kept unless tracked; of the frames at fs (the callers') the slots may change (an exception that passes writes there); of the records at ex (iterators) nothing is said -/
structure Un (fs ex : List Addr) (H H' : Hp) (h h' : Heap) : Prop where
  keep : ∀ b o, h.get? b = some o → H b = none → b ∉ fs → b ∉ ex → h'.get? b = some o
  slot : ∀ b o, h.get? b = some o → H b = none → b ∈ fs → b ∉ ex → ∃ sl, h'.get? b = some { o with slots := sl }
  free : ∀ b o, h.get? b = some o → H b = none → b ∉ ex → H' b = none
  there : ∀ b o, h.get? b = some o → b ∉ ex → ∃ o', h'.get? b = some o'
  tups : ∀ b xs, H b = some (.tup xs) → H' b = some (.tup xs)
  frzs : ∀ b o u, H b = some (.frz o u) → H' b = some (.frz o u)
  tbls : ∀ b ps, H b = some (.tbl ps) → ∃ more, H' b = some (.tbl (ps ++ more))
section
variable {fs fs' ex ex' : List Addr} {H H1 H2 : Hp} {h h1 h2 h' : Heap} {a x e : Addr} {o : HO}
theorem Un.any (u : Un fs ex H H1 h h1) {b : Addr} {ob : Obj} (q : h.get? b = some ob) (n : H b = none) (hx : b ∉ ex) : ∃ sl, h1.get? b = some { ob with slots := sl } := by
  by_cases hb : b ∈ fs
  · exact u.slot b ob q n hb hx
  · exact ⟨ob.slots, u.keep b ob q n hb hx⟩
theorem Un.kept (k : ∀ b u, h.get? b = some u → h'.get? b = some u) : Un fs ex H H h h' :=
  ⟨fun b ob q _ _ _ => k b ob q, fun b ob q _ _ _ => ⟨ob.slots, k b ob q⟩, fun _ _ _ n _ => n, fun b ob q _ => ⟨ob, k b ob q⟩, fun _ _ q => q, fun _ _ _ q => q, fun _ ps q => ⟨#[], by rw [q]; simp⟩⟩
theorem Un.refl : Un fs ex H H h h := Un.kept fun _ _ q => q
theorem Un.laid (k : ∀ b u, h.get? b = some u → h'.get? b = some u) (hp : h.objs.size ≤ a) (hn : H a = none) : Un fs ex H (upd H a o) h h' where
  keep := fun b u q _ _ _ => k b u q
  slot := fun b u q _ _ _ => ⟨u.slots, k b u q⟩
  free := fun b u q n _ => by rw [upd_ne (Nat.ne_of_lt (Nat.lt_of_lt_of_le (Heap.lt_size q) hp))]; exact n
  there := fun b u q _ => ⟨u, k b u q⟩
  tups := fun b xs q => by rw [upd_ne (ne_of_none q hn)]; exact q
  frzs := fun b u xs q => by rw [upd_ne (ne_of_none q hn)]; exact q
  tbls := fun b ps q => ⟨#[], by rw [upd_ne (ne_of_none q hn), q]; simp⟩
theorem Un.write (mu : Mut (H x)) (he : e = x ∨ H e = some (.own x)) (k : ∀ b u, b ≠ e → h.get? b = some u → h'.get? b = some u) (heo : ∃ u, h'.get? e = some u) : Un fs ex H (upd H x o) h h' := by
  have hx : ∀ b, H b = none → b ≠ x := fun b n z => by subst z; rw [n] at mu; exact mu
  have hb : ∀ b, H b = none → b ≠ e := fun b n z => by
    subst z
    rcases he with r | r
    · exact hx b n r
    · rw [n] at r; cases r
  have hm : ∀ b u, H b = some u → ¬ Mut (some u) → b ≠ x := fun b u q nm z => by subst z; rw [q] at mu; exact nm mu
  refine ⟨fun b u q n _ _ => k b u (hb b n) q, fun b u q n _ _ => ⟨u.slots, k b u (hb b n) q⟩, fun b u q n _ => by rw [upd_ne (hx b n)]; exact n, fun b u q _ => ?_,
    fun b xs q => by rw [upd_ne (hm b _ q fun z => z)]; exact q, fun b u xs q => by rw [upd_ne (hm b _ q fun z => z)]; exact q, fun b ps q => ⟨#[], by rw [upd_ne (hm b _ q fun z => z), q]; simp⟩⟩
  by_cases hbe : b = e
  · subst hbe; exact heo
  · exact ⟨u, k b u hbe q⟩
end

/-! ### the heap without what is tracked -/
def trk (h : Heap) (H : Hp) : List Addr := (List.range h.objs.size).filter fun a => (H a).isSome
def hidT (h : Heap) (H : Hp) : Heap := PySem.W.hideAll h (trk h H)
theorem hidT_size (h : Heap) (H : Hp) : (hidT h H).objs.size = h.objs.size := PySem.W.hideAll_size _ _
theorem hidT_get {h : Heap} {H : Hp} {b : Addr} {o : Obj} (e : h.get? b = some o) (n : H b = none) : (hidT h H).get? b = some o :=
  PySem.W.hideAll_get _ e fun hm => by
    have q : (H b).isSome = true := (List.mem_filter.mp hm).2
    rw [n] at q; simp at q
theorem of_hidT {h : Heap} {H : Hp} {b : Addr} {o : Obj} (e : (hidT h H).get? b = some o) : h.get? b = some o ∧ H b = none := by
  have e' : h.get? b = some o := PySem.W.of_hideAll (trk h H) e
  refine ⟨e', ?_⟩
  cases q : H b with
  | none => rfl
  | some x =>
    have hm : b ∈ trk h H := List.mem_filter.mpr ⟨List.mem_range.mpr (Heap.lt_size e'), by simp [q]⟩
    have z : (hidT h H).get? b = none := PySem.W.hideAll_none (trk h H) hm
    rw [z] at e; cases e

/-! ### OpenK's ledger, filled with every new object but one -/
def allNews (g h : Heap) (L : Addr) : List (Addr × Obj) := (List.range h.objs.size).filterMap fun a => if a = L ∨ (g.get? a).isSome = true then none else (h.get? a).map fun o => (a, o)
def rest (g h : Heap) (L d : Addr) : List (Addr × Obj) := (allNews g h L).filter fun p => decide (p.1 ≠ d)
end L2

namespace L2
open PySem PySem.Spec PyProof.Rows

/-- the module's facts, over the base: the heap at the law's entry without what is tracked there -/
structure Mod (K : PySem.W.Frag) (mg : Str → Option Value) (base : Heap) : Prop where
  kin : K.In base
  glob : base.Ns mainGlobals mg
  blt : ∃ mb, base.Ns builtinsNs mb ∧ ∀ x : Str, x ≠ "__name__" → mb x = bootBuiltins x
  nolimit : base.NoLimit

/-- the context: a def's body (or a comprehension's block) running. base: fixed through the whole law; s₀, H₀: the entry; outer: the frames whose slots others may change (a def's callers); stack: all frames that run;
   ex: iterators that were made ahead of the entry and are walked here (a comprehension's); fn: the names whose cells were made at the entry (a def: all; a comprehension's block: its own); calm: not within an except suite; pn: pins that every state bears; xe: what is wanted of an exception that leaves the code -/
structure Cx where
  prog : Program
  w : World
  K : PySem.W.Frag
  mg : Str → Option Value
  base : Heap
  A : Around
  N : List Str
  s₀ : Shared
  H₀ : Hp
  env : Env
  outer : List Env
  stack : List Env
  ex : List Addr
  fn : Str → Bool
  calm : Bool
  pn : List (Addr × Obj)
  xe : Value → Shared → Prop
/-- the callers' frames -/
def frs (l : List Env) : List Addr := l.filterMap (·.frame)
abbrev Cx.fs (X : Cx) : List Addr := frs X.outer

def Vis (sc : Scope) (x : Str) : Prop := sc.names.lookup x = some .local ∨ sc.names.lookup x = some .cell ∨ sc.names.lookup x = some .free
def Loc (sc : Scope) (x : Str) : Prop := sc.names.lookup x = some .local ∨ sc.names.lookup x = some .cell
def Look (env : Env) (h : Heap) (m : Str → Option Value) (x : Str) (u : Value) : Prop :=
  (env.kindOf x = some .local ∧ m x = some u) ∨ ((env.kindOf x = some .cell ∨ env.kindOf x = some .free) ∧ ∃ c, env.cells.lookup x = some c ∧ h.IsCell c (some u))

structure Cx.Ok (X : Cx) : Prop where
  mod : Mod X.K X.mg X.base
  kind : X.env.scope.kind = .function
  glob : X.env.globals = mainGlobals
  blt : X.env.builtins = builtinsNs
  above : X.s₀.heap.objs.size ≤ X.env.locals
  inj : ∀ x y c, X.env.cells.lookup x = some c → X.env.cells.lookup y = some c → x = y
  has : ∀ x, (X.env.kindOf x = some .cell ∨ X.env.kindOf x = some .free) → ∃ c, X.env.cells.lookup x = some c
  cab : ∀ x c, X.fn x = true → X.env.cells.lookup x = some c → X.s₀.heap.objs.size ≤ c
  hd : X.calm = true → X.A.handled = none
  frames : X.A.frames = some X.stack
  stk : X.stack = X.outer ∨ (X.stack = X.env :: X.outer ∧ X.env.frame = some X.env.locals)
  exf : ∀ b ∈ X.ex, b ≠ X.env.locals ∧ ∀ x c, X.env.cells.lookup x = some c → c ≠ b
  bs : ∀ b o, X.base.get? b = some o → X.s₀.heap.get? b = some o ∧ X.H₀ b = none
  bsz : X.base.objs.size ≤ X.s₀.heap.objs.size
  noex : ∀ b o, X.base.get? b = some o → b ∉ X.ex
  exfs : ∀ b ∈ X.ex, b ∉ X.fs
  funs : X.s₀.heap.FunFrames X.base X.outer
  frf : ∀ b ∈ X.fs, X.H₀ b = none

structure Inv (X : Cx) (pins : List (Addr × Obj)) (σ : List (Option V)) (H : Hp) (s : Shared) : Prop where
  ok : X.Ok
  os : s.os = X.s₀.os
  bare : AllBare s.gens
  base : Un X.fs X.ex X.H₀ H X.s₀.heap s.heap
  loc : ∃ m, s.heap.Ns X.env.locals m ∧ ∀ (i : Nat) (x : Str) (v : V), X.N[i]? = some x → σ[i]? = some (some v) → Vis X.env.scope x → ∃ u, RelV v u ∧ Look X.env s.heap m x u
  cell : ∀ x c, X.env.cells.lookup x = some c → ∃ v, s.heap.IsCell c v
  free : H X.env.locals = none
  freeC : ∀ x c, X.env.cells.lookup x = some c → H c = none
  pin : ∀ p ∈ X.pn ++ pins, s.heap.get? p.1 = some p.2 ∧ H p.1 = none ∧ p.1 ≠ X.env.locals ∧ p.1 ∉ X.fs ∧ ∀ v, p.2.data ≠ .cell v
  hok : HOk X.prog X.w H s.heap
  len : σ.length = X.N.length

section
variable {X : Cx} {pins : List (Addr × Obj)} {σ : List (Option V)} {H H' : Hp} {s : Shared} {h' : Heap}

theorem Cx.Ok.nofr (ok : X.Ok) {b : Addr} {o : Obj} (e : X.base.get? b = some o) : b ∉ X.fs := fun hb => by
  have := (ok.funs.mem hb).1
  rw [e] at this; cases this
theorem Inv.bs (I : Inv X pins σ H s) : ∀ b o, X.base.get? b = some o → s.heap.get? b = some o ∧ H b = none := fun b o e =>
  ⟨I.base.keep b o (I.ok.bs b o e).1 (I.ok.bs b o e).2 (I.ok.nofr e) (I.ok.noex b o e), I.base.free b o (I.ok.bs b o e).1 (I.ok.bs b o e).2 (I.ok.noex b o e)⟩
theorem Inv.bk (I : Inv X pins σ H s) : ∀ b o, X.base.get? b = some o → s.heap.get? b = some o := fun b o e => (I.bs b o e).1
theorem Inv.mod (I : Inv X pins σ H s) : Mod X.K X.mg X.base := I.ok.mod
theorem Inv.kIn (I : Inv X pins σ H s) : X.K.In s.heap := I.ok.mod.kin.keeps I.bk
theorem Inv.lt (I : Inv X pins σ H s) : X.env.locals < s.heap.objs.size := let ⟨_, hn, _⟩ := I.loc; hn.lt
theorem Inv.sz (I : Inv X pins σ H s) : X.s₀.heap.objs.size ≤ s.heap.objs.size := Nat.le_trans I.ok.above (Nat.le_of_lt I.lt)
theorem Inv.nofs (I : Inv X pins σ H s) {a : Addr} (h : s.heap.objs.size ≤ a) : a ∉ X.fs := fun hb => by
  obtain ⟨_, o, ho, _⟩ := I.ok.funs.mem hb
  exact absurd (Nat.lt_of_lt_of_le (Heap.lt_size ho) (Nat.le_trans I.sz h)) (Nat.lt_irrefl _)
theorem Inv.cne (I : Inv X pins σ H s) : ∀ x c, X.env.cells.lookup x = some c → c ≠ X.env.locals := fun x c e z => by
  obtain ⟨v, o, ho, hd⟩ := I.cell x c e
  obtain ⟨m, ⟨o', es, ep, ho', hd', _⟩, _⟩ := I.loc
  rw [z, ho'] at ho; cases ho; rw [hd'] at hd; cases hd
theorem Inv.funs (I : Inv X pins σ H s) : s.heap.FunFrames X.base X.outer := by
  have all : ∀ (l : List Env), (∀ b ∈ frs l, b ∈ X.fs) → X.s₀.heap.FunFrames X.base l → s.heap.FunFrames X.base l := by
    intro l
    induction l with
    | nil => intro _ _; trivial
    | cons env r ih =>
      intro hs hl
      obtain ⟨hk, ⟨L, o, hf, hn, ho, hd⟩, hr⟩ := hl
      have hL : L ∈ X.fs := hs L (by unfold frs; rw [List.filterMap_cons, hf]; exact List.mem_cons_self)
      obtain ⟨sl, e⟩ := I.base.slot L o ho (I.ok.frf L hL) hL fun z => I.ok.exfs L z hL
      exact ⟨hk, ⟨L, _, hf, hn, e, hd⟩, ih (fun b hb => hs b (by unfold frs; rw [List.filterMap_cons, hf]; exact List.mem_cons_of_mem _ hb)) hr⟩
  exact all X.outer (fun _ hb => hb) I.ok.funs

/-- the frames that run, for a call -/
theorem Inv.stack (I : Inv X pins σ H s) : s.heap.FunFrames X.base X.stack := by
  rcases I.ok.stk with e | ⟨e, hf⟩
  · rw [e]; exact I.funs
  · rw [e]
    obtain ⟨m, hn, _⟩ := I.loc
    refine .cons (by rw [I.ok.kind]; decide) hf hn ?_ I.funs
    exact Heap.get?_none_of_le (Nat.le_trans I.ok.bsz I.ok.above)
theorem Inv.stkSub (I : Inv X pins σ H s) : ∀ b ∈ frs X.stack, b ∈ X.env.locals :: X.fs := fun b hb => by
  rcases I.ok.stk with e | ⟨e, hf⟩
  · rw [e] at hb; exact List.mem_cons_of_mem _ hb
  · rw [e] at hb
    unfold frs at hb
    rw [List.filterMap_cons, hf] at hb
    exact hb
theorem Inv.stkFree (I : Inv X pins σ H s) : ∀ b ∈ frs X.stack, H b = none := fun b hb => by
  rcases List.mem_cons.mp (I.stkSub b hb) with e | hb
  · rw [e]; exact I.free
  · obtain ⟨_, o, ho, _⟩ := I.ok.funs.mem hb
    exact I.base.free b o ho (I.ok.frf b hb) fun z => I.ok.exfs b z hb

/-- THE STEP: the untracked objects but the frame and the records at ch are kept (the callers' frames up to slots), the frame's map is kept, the new abstract heap is held -/
theorem Inv.step {g' : Array GenState} {t' : Nat} {d' : Drawn} {ch : List Addr} (I : Inv X pins σ H s)
    (hch : ∀ b ∈ ch, (b ∈ X.ex ∨ X.s₀.heap.objs.size ≤ b) ∧ b ≠ X.env.locals ∧ (∀ x c, X.env.cells.lookup x = some c → c ≠ b) ∧ ∀ p ∈ X.pn ++ pins, p.1 ≠ b)
    (keep : ∀ b o, b ≠ X.env.locals → b ∉ X.fs → b ∉ ch → s.heap.get? b = some o → H b = none → h'.get? b = some o)
    (slot : ∀ b o, b ≠ X.env.locals → b ∈ X.fs → b ∉ ch → s.heap.get? b = some o → H b = none → ∃ sl, h'.get? b = some { o with slots := sl }) (free : ∀ b o, b ∉ ch → s.heap.get? b = some o → H b = none → H' b = none)
    (there : ∀ b o, b ∉ ch → s.heap.get? b = some o → ∃ o', h'.get? b = some o')
    (tups : ∀ b xs, H b = some (.tup xs) → H' b = some (.tup xs)) (frzs : ∀ b o u, H b = some (.frz o u) → H' b = some (.frz o u)) (tbls : ∀ b ps, H b = some (.tbl ps) → ∃ more, H' b = some (.tbl (ps ++ more)))
    (ns : ∀ m, s.heap.Ns X.env.locals m → h'.Ns X.env.locals m) (hok : HOk X.prog X.w H' h') (hg : AllBare g') :
    Inv X pins σ H' { s with heap := h', gens := g', drawn := d', toks := t' } := by
  have neL : ∀ b o, X.s₀.heap.get? b = some o → b ≠ X.env.locals := fun b o e => Nat.ne_of_lt (Nat.lt_of_lt_of_le (Heap.lt_size e) I.ok.above)
  have neC : ∀ b o, X.s₀.heap.get? b = some o → b ∉ X.ex → b ∉ ch := fun b o e hx hb => by
    rcases (hch b hb).1 with z | z
    · exact hx z
    · exact absurd (Nat.lt_of_lt_of_le (Heap.lt_size e) z) (Nat.lt_irrefl _)
  have cellK : ∀ x c, X.env.cells.lookup x = some c → ∀ v, s.heap.IsCell c v → h'.IsCell c v := fun x c e v ⟨o, ho, hd⟩ => by
    have nch : c ∉ ch := fun z => (hch c z).2.2.1 x c e rfl
    by_cases hc : c ∈ X.fs
    · obtain ⟨sl, q⟩ := slot c o (I.cne x c e) hc nch ho (I.freeC x c e)
      exact ⟨_, q, hd⟩
    · exact ⟨o, keep c o (I.cne x c e) hc nch ho (I.freeC x c e), hd⟩
  refine ⟨I.ok, I.os, hg, ⟨fun b o e n hb hx => ?_, fun b o e n hb hx => ?_, fun b o e n hx => ?_, fun b o e hx => ?_, fun b xs e => tups b xs (I.base.tups b xs e), fun b o xs e => frzs b o xs (I.base.frzs b o xs e), fun b ps e => ?_⟩, ?_, fun x c e => ?_, ?_, fun x c e => ?_, fun p hp => ?_, hok, I.len⟩
  · exact keep b o (neL b o e) hb (neC b o e hx) (I.base.keep b o e n hb hx) (I.base.free b o e n hx)
  · obtain ⟨sl, e1⟩ := I.base.slot b o e n hb hx
    obtain ⟨sl', e2⟩ := slot b _ (neL b o e) hb (neC b o e hx) e1 (I.base.free b o e n hx)
    exact ⟨sl', e2⟩
  · obtain ⟨o', e1⟩ := I.base.there b o e hx
    exact free b o' (neC b o e hx) e1 (I.base.free b o e n hx)
  · obtain ⟨o', e1⟩ := I.base.there b o e hx
    exact there b o' (neC b o e hx) e1
  · obtain ⟨m1, e1⟩ := I.base.tbls b ps e
    obtain ⟨m2, e2⟩ := tbls b _ e1
    exact ⟨m1 ++ m2, by rw [e2, Array.append_assoc]⟩
  · obtain ⟨m, hn, hl⟩ := I.loc
    refine ⟨m, ns m hn, fun i x v e1 e2 e3 => ?_⟩
    obtain ⟨u, r, l⟩ := hl i x v e1 e2 e3
    refine ⟨u, r, ?_⟩
    rcases l with l | ⟨k, c, e, z⟩
    · exact .inl l
    · exact .inr ⟨k, c, e, cellK x c e _ z⟩
  · obtain ⟨v, z⟩ := I.cell x c e
    exact ⟨v, cellK x c e v z⟩
  · obtain ⟨m, ⟨o, _, _, ho, _⟩, _⟩ := I.loc
    exact free _ o (fun z => (hch _ z).2.1 rfl) ho I.free
  · obtain ⟨v, o, ho, hd⟩ := I.cell x c e
    exact free c o (fun z => (hch c z).2.2.1 x c e rfl) ho (I.freeC x c e)
  · obtain ⟨e, n, ne, nf, d⟩ := I.pin p hp
    have nch : p.1 ∉ ch := fun z => (hch p.1 z).2.2.2 p hp rfl
    exact ⟨keep p.1 p.2 ne nf nch e n, free p.1 p.2 nch e n, ne, nf, d⟩
/-- .. where the frame's own object is kept too -/
theorem Inv.un {t' : Nat} (I : Inv X pins σ H s) (u : Un X.fs [] H H' s.heap h') (hok : HOk X.prog X.w H' h') : Inv X pins σ H' { s with heap := h', toks := t' } := by
  obtain ⟨m, ⟨o, es, ep, ho, r⟩, _⟩ := id I.loc
  obtain ⟨sl, hL⟩ := u.any ho I.free (by simp)
  exact I.step (g' := s.gens) (d' := s.drawn) (ch := []) (fun _ z => nomatch z) (fun b o _ hb _ e n => u.keep b o e n hb (by simp)) (fun b o _ hb _ e n => u.slot b o e n hb (by simp)) (fun b o _ e n => u.free b o e n (by simp)) (fun b o _ e => u.there b o e (by simp)) u.tups u.frzs u.tbls (fun m' hm => by
    obtain ⟨o', es', ep', ho', r'⟩ := hm
    rw [ho] at ho'; cases ho'
    exact ⟨_, es', ep', hL, r'⟩) hok I.bare
/-- behind a call (or a comprehension's block): the slots of this frame may have changed too, the records at ch may have turned -/
theorem Inv.call {g' : Array GenState} {t' : Nat} {d' : Drawn} {ch : List Addr} (I : Inv X pins σ H s) (u : Un (frs X.stack) ch H H' s.heap h') (hok : HOk X.prog X.w H' h') (hg : AllBare g')
    (hch : ∀ b ∈ ch, (b ∈ X.ex ∨ X.s₀.heap.objs.size ≤ b) ∧ b ≠ X.env.locals ∧ (∀ x c, X.env.cells.lookup x = some c → c ≠ b) ∧ ∀ p ∈ X.pn ++ pins, p.1 ≠ b) :
    Inv X pins σ H' { s with heap := h', gens := g', drawn := d', toks := t' } := by
  obtain ⟨m, ⟨o, es, ep, ho, r⟩, _⟩ := id I.loc
  obtain ⟨sl, hL⟩ := u.any ho I.free fun z => (hch _ z).2.1 rfl
  exact I.step (ch := ch) hch (fun b o hL hb hc e n => u.keep b o e n (fun z => (List.mem_cons.mp (I.stkSub b z)).elim hL hb) hc) (fun b o _ _ hc e n => u.any e n hc) (fun b o hc e n => u.free b o e n hc) (fun b o hc e => u.there b o e hc) u.tups u.frzs u.tbls (fun m' hm => by
    obtain ⟨o', es', ep', ho', r'⟩ := hm
    rw [ho] at ho'; cases ho'
    exact ⟨_, es', ep', hL, r'⟩) hok hg
/-- an untracked record of ours (an iterator) has turned -/
theorem Inv.turned {t' : Nat} {it : Addr} (I : Inv X pins σ H s) (k : ∀ b o, b ≠ it → s.heap.get? b = some o → h'.get? b = some o) (hn : H it = none) (hL : it ≠ X.env.locals)
    (h1 : it ∈ X.ex ∨ X.s₀.heap.objs.size ≤ it) (h2 : ∀ x c, X.env.cells.lookup x = some c → c ≠ it) (h3 : ∀ p ∈ X.pn ++ pins, p.1 ≠ it) : Inv X pins σ H { s with heap := h', toks := t' } := by
  have nit : ∀ b u, H b = some u → b ≠ it := fun b u e z => by rw [z, hn] at e; cases e
  refine I.step (g' := s.gens) (d' := s.drawn) (ch := [it]) (fun b hb => ?_) (fun b o _ _ hc e _ => k b o (fun z => hc (by simp [z])) e) (fun b o _ _ hc e _ => ⟨o.slots, k b o (fun z => hc (by simp [z])) e⟩) (fun _ _ _ _ n => n)
    (fun b o hc e => ⟨o, k b o (fun z => hc (by simp [z])) e⟩) (fun _ _ e => e) (fun _ _ _ e => e) (fun b ps e => ⟨#[], by rw [e]; simp⟩) (fun m hm => ?_) (fun b u e => ?_) I.bare
  · have e : b = it := by simpa using hb
    subst e
    exact ⟨h1, hL, h2, h3⟩
  · obtain ⟨o, es, ep, ho, r⟩ := hm
    exact ⟨o, es, ep, k _ o (Ne.symm hL) ho, r⟩
  · refine (I.hok b u e).stay (fun c v hc q => k c v ?_ q) (fun _ q => q) fun _ _ q => q
    rcases hc with z | z
    · rw [z]; exact nit b u e
    · exact nit c _ z
theorem Inv.tok (I : Inv X pins σ H s) (t : Nat) : Inv X pins σ H { s with toks := t } := I.un (h' := s.heap) (t' := t) Un.refl I.hok
/-- all objects kept -/
theorem Inv.kept {t' : Nat} (I : Inv X pins σ H s) (k : ∀ b u, s.heap.get? b = some u → h'.get? b = some u) : Inv X pins σ H { s with heap := h', toks := t' } := I.un (Un.kept k) (I.hok.kept k)
/-- a new object laid and tracked -/
theorem Inv.laid {a : Addr} {o : HO} {t' : Nat} (I : Inv X pins σ H s) (k : ∀ b u, s.heap.get? b = some u → h'.get? b = some u) (hp : s.heap.objs.size ≤ a) (new : ObjOk X.prog X.w (upd H a o) h' a o) :
    Inv X pins σ (upd H a o) { s with heap := h', toks := t' } := I.un (Un.laid k hp (I.hok.fresh hp)) (I.hok.laid k hp new)
/-- an object written -/
theorem Inv.write {x e : Addr} {o : HO} {t' : Nat} (I : Inv X pins σ H s) (mu : Mut (H x)) (he : e = x ∨ H e = some (.own x)) (k : ∀ b u, b ≠ e → s.heap.get? b = some u → h'.get? b = some u) (heo : ∃ u, h'.get? e = some u)
    (new : ObjOk X.prog X.w (upd H x o) h' x o) : Inv X pins σ (upd H x o) { s with heap := h', toks := t' } := I.un (Un.write mu he k heo) (I.hok.write mu he k heo new)
theorem Inv.pins_of {pins' : List (Addr × Obj)} (I : Inv X pins σ H s) (h : ∀ p ∈ pins', s.heap.get? p.1 = some p.2 ∧ H p.1 = none ∧ p.1 ≠ X.env.locals ∧ p.1 ∉ X.fs ∧ ∀ v, p.2.data ≠ .cell v) : Inv X pins' σ H s :=
  ⟨I.ok, I.os, I.bare, I.base, I.loc, I.cell, I.free, I.freeC, fun p hp => (List.mem_append.mp hp).elim (fun z => I.pin p (List.mem_append_left _ z)) (h p), I.hok, I.len⟩

theorem nodup_ix {N : List Str} (hN : N.Nodup) {i j : Nat} {x : Str} (a : N[i]? = some x) (b : N[j]? = some x) : i = j := by
  obtain ⟨h1, e1⟩ := List.getElem?_eq_some_iff.mp a
  obtain ⟨h2, e2⟩ := List.getElem?_eq_some_iff.mp b
  exact (List.getElem_inj hN).mp (e1.trans e2.symm)

/-- a name is stored; what changed -/
theorem store_ok2 {M : Model} {A : Around} {E : Value → Shared → Prop} {i : Nat} {x : Str} {v : V} {u : Value} {Q : Unit → Shared → Prop} (I : Inv X pins σ H s) (hN : X.N.Nodup) (hi : X.N[i]? = some x) (hx : Loc X.env.scope x) (r : RelV v u)
    (h : ∀ s', Inv X pins (σ.set i (some v)) H s' → (∃ a, Heap.SameBut a s.heap s'.heap ∧ (a = X.env.locals ∨ X.env.cells.lookup x = some a)) → Q () s') (hf : X.fn x = true ∨ X.env.scope.names.lookup x = some .local := by first | exact .inl rfl | exact .inr rfl | assumption) : wpAny M A (storeName X.env x u) Q E s := by
  obtain ⟨m, hn, hl⟩ := id I.loc
  have hcls : (X.env.scope.kind == .class || (X.env.scope.kind == .module && X.env.locals != X.env.globals)) = false := by rw [I.ok.kind]; rfl
  have hiσ : i < σ.length := by rw [I.len]; exact (List.getElem?_eq_some_iff.mp hi).1
  have cne := I.cne
  have tracked : ∀ {a : Addr} {h' : Heap}, (∃ o, s.heap.get? a = some o ∧ H a = none) → Heap.SameBut a s.heap h' → HOk X.prog X.w H h' := fun {a h'} ha hs b ob e => by
    obtain ⟨_, _, hfree⟩ := ha
    refine (I.hok b ob e).stay (fun c w' hc q => (hs.2 c ?_).trans q) (fun _ q => q) fun _ _ q => q
    rintro rfl
    rcases hc with rfl | hc
    · rw [hfree] at e; cases e
    · rw [hfree] at hc; cases hc
  rcases hx with hk | hk
  · refine wpAny_storeName_local hk hn (fun h' hn' hs => ?_) hcls
    obtain ⟨oL, _, _, hoL, _⟩ := id hn
    refine h _ ⟨I.ok, I.os, I.bare, ⟨fun b o e n hb hx => ?_, fun b o e n hb hx => ?_, I.base.free, fun b o e hx => ?_, I.base.tups, I.base.frzs, I.base.tbls⟩, ⟨_, hn', fun j y v' e1 e2 e3 => ?_⟩, fun y c e => ?_, I.free, I.freeC, fun p hp => ?_, tracked ⟨oL, hoL, I.free⟩ hs, by simpa using I.len⟩ ⟨_, hs, .inl rfl⟩
    · exact (hs.2 b (Nat.ne_of_lt (Nat.lt_of_lt_of_le (Heap.lt_size e) I.ok.above))).trans (I.base.keep b o e n hb hx)
    · obtain ⟨sl, e1⟩ := I.base.slot b o e n hb hx
      exact ⟨sl, (hs.2 b (Nat.ne_of_lt (Nat.lt_of_lt_of_le (Heap.lt_size e) I.ok.above))).trans e1⟩
    · obtain ⟨o', e1⟩ := I.base.there b o e hx
      exact ⟨o', (hs.2 b (Nat.ne_of_lt (Nat.lt_of_lt_of_le (Heap.lt_size e) I.ok.above))).trans e1⟩
    · by_cases hj : j = i
      · subst hj
        rw [hi] at e1; cases e1
        rw [List.getElem?_set_self hiσ] at e2
        cases e2
        exact ⟨u, r, .inl ⟨hk, by simp⟩⟩
      · rw [List.getElem?_set_ne (Ne.symm hj)] at e2
        obtain ⟨u', r', q⟩ := hl j y v' e1 e2 e3
        refine ⟨u', r', ?_⟩
        rcases q with ⟨k, e⟩ | ⟨k, c, e, z⟩
        · refine .inl ⟨k, ?_⟩
          have : y ≠ x := fun e => hj (nodup_ix hN e1 (e ▸ hi))
          simp [this, e]
        · exact .inr ⟨k, c, e, z.sameBut hs (cne y c e)⟩
    · obtain ⟨w', z⟩ := I.cell y c e
      exact ⟨w', z.sameBut hs (cne y c e)⟩
    · obtain ⟨e, n, ne, nf, d⟩ := I.pin p hp
      exact ⟨(hs.2 p.1 ne).trans e, n, ne, nf, d⟩
  · have hfn : X.fn x = true := by
      rcases hf with z | z
      · exact z
      · rw [z] at hk; cases hk
    obtain ⟨c, hc⟩ := I.ok.has x (.inl hk)
    obtain ⟨w', z⟩ := I.cell x c hc
    refine wpAny_storeName_cell I.ok.kind hk hc z (fun h' hc' hs => ?_)
    obtain ⟨oc, hoc, hocd⟩ := id z
    refine h { s with heap := h' } ⟨I.ok, I.os, I.bare, ⟨fun b o e n hb hx => ?_, fun b o e n hb hx => ?_, I.base.free, fun b o e hx => ?_, I.base.tups, I.base.frzs, I.base.tbls⟩, ⟨m, hn.sameBut hs (Ne.symm (cne x c hc)), fun j y v' e1 e2 e3 => ?_⟩, fun y c' e => ?_, I.free, I.freeC, fun p hp => ?_, tracked ⟨oc, hoc, I.freeC x c hc⟩ hs, by simpa using I.len⟩ ⟨c, hs, .inr hc⟩
    · exact (hs.2 b (Nat.ne_of_lt (Nat.lt_of_lt_of_le (Heap.lt_size e) (I.ok.cab x c hfn hc)))).trans (I.base.keep b o e n hb hx)
    · obtain ⟨sl, e1⟩ := I.base.slot b o e n hb hx
      exact ⟨sl, (hs.2 b (Nat.ne_of_lt (Nat.lt_of_lt_of_le (Heap.lt_size e) (I.ok.cab x c hfn hc)))).trans e1⟩
    · obtain ⟨o', e1⟩ := I.base.there b o e hx
      exact ⟨o', (hs.2 b (Nat.ne_of_lt (Nat.lt_of_lt_of_le (Heap.lt_size e) (I.ok.cab x c hfn hc)))).trans e1⟩
    · by_cases hj : j = i
      · subst hj
        rw [hi] at e1; cases e1
        rw [List.getElem?_set_self hiσ] at e2
        cases e2
        exact ⟨u, r, .inr ⟨.inl hk, c, hc, hc'⟩⟩
      · rw [List.getElem?_set_ne (Ne.symm hj)] at e2
        obtain ⟨u', r', q⟩ := hl j y v' e1 e2 e3
        refine ⟨u', r', ?_⟩
        rcases q with q | ⟨k, c', e, z'⟩
        · exact .inl q
        · refine .inr ⟨k, c', e, z'.sameBut hs ?_⟩
          rintro rfl
          exact hj (nodup_ix hN e1 (I.ok.inj _ _ _ e hc ▸ hi))
    · by_cases hcc : c' = c
      · subst hcc; exact ⟨_, hc'⟩
      · obtain ⟨w2, z2⟩ := I.cell y c' e
        exact ⟨w2, z2.sameBut hs hcc⟩
    · obtain ⟨e, n, ne, nf, d⟩ := I.pin p hp
      refine ⟨(hs.2 p.1 ?_).trans e, n, ne, nf, d⟩
      intro q
      rw [q, hoc] at e
      have q' : oc = p.2 := Option.some.inj e
      exact d w' (by rw [← q']; exact hocd)
theorem store_ok {M : Model} {A : Around} {E : Value → Shared → Prop} {i : Nat} {x : Str} {v : V} {u : Value} {Q : Unit → Shared → Prop} (I : Inv X pins σ H s) (hN : X.N.Nodup) (hi : X.N[i]? = some x) (hx : Loc X.env.scope x) (r : RelV v u)
    (h : ∀ s', Inv X pins (σ.set i (some v)) H s' → Q () s') (hf : X.fn x = true ∨ X.env.scope.names.lookup x = some .local := by first | exact .inl rfl | exact .inr rfl | assumption) : wpAny M A (storeName X.env x u) Q E s :=
  store_ok2 I hN hi hx r (fun s' I' _ => h s' I') hf
/-- behind a call or a block, the state as it is -/
theorem Inv.call' {s' : Shared} {ch : List Addr} (I : Inv X pins σ H s) (ho : s'.os = s.os) (u : Un (frs X.stack) ch H H' s.heap s'.heap) (hok : HOk X.prog X.w H' s'.heap) (hg : AllBare s'.gens)
    (hch : ∀ b ∈ ch, (b ∈ X.ex ∨ X.s₀.heap.objs.size ≤ b) ∧ b ≠ X.env.locals ∧ (∀ x c, X.env.cells.lookup x = some c → c ≠ b) ∧ ∀ p ∈ X.pn ++ pins, p.1 ≠ b) : Inv X pins σ H' s' := by
  obtain ⟨h', g', d', t', o'⟩ := s'
  have e : o' = s.os := ho
  subst e
  exact I.call (g' := g') (t' := t') (d' := d') u hok hg hch
end

/-! ### the judgements -/
/-- an exception: its class, its own dict's address (where it has one), the abstract heap behind it -/
abbrev XK := Value → Option Addr → Hp → Prop
abbrev St := List (Option V)
abbrev VK := V → Hp → Prop
/-- an expression's reading; a test's; an argument list's -/
abbrev TE := St → Hp → VK → Prop
abbrev TT := St → Hp → (Bool → Hp → Prop) → Prop
abbrev TA := St → Hp → (List V → Hp → Prop) → Prop
/-- what is wanted behind a statement -/
structure Ends where
  nx : St → Hp → Prop
  rt : VK
  bk : St → Hp → Prop := fun _ _ => False
  ct : St → Hp → Prop := fun _ _ => False
abbrev TS := Ends → St → Hp → Prop

def EP (X : Cx) (pins : List (Addr × Obj)) (σ : St) (Q : VK) (u : Value) (s' : Shared) : Prop := ∃ v H', Inv X pins σ H' s' ∧ RelV v u ∧ Q v H'
def TP (X : Cx) (pins : List (Addr × Obj)) (σ : St) (Q : Bool → Hp → Prop) (b : Bool) (s' : Shared) : Prop := ∃ H', Inv X pins σ H' s' ∧ Q b H'
def AP (X : Cx) (pins : List (Addr × Obj)) (σ : St) (Q : List V → Hp → Prop) (us : List Value) (s' : Shared) : Prop := ∃ vs H', Inv X pins σ H' s' ∧ Vals vs us ∧ Q vs H'
def SP (X : Cx) (pins : List (Addr × Obj)) (D : Ends) (f : Flow) (s' : Shared) : Prop :=
  match f with
  | .next => ∃ σ' H', Inv X pins σ' H' s' ∧ D.nx σ' H'
  | .brk => ∃ σ' H', Inv X pins σ' H' s' ∧ D.bk σ' H'
  | .cont => ∃ σ' H', Inv X pins σ' H' s' ∧ D.ct σ' H'
  | .ret u => ∃ v σ' H', Inv X pins σ' H' s' ∧ RelV v u ∧ D.rt v H'

def PE (X : Cx) (e : Expr) (t : TE) : Prop :=
  ∀ (pins : List (Addr × Obj)) (s : Shared) (σ : St) (H : Hp) (Q : VK), Inv X pins σ H s → t σ H Q → wpAny (model X.prog X.w) X.A (eval e X.env) (EP X pins σ Q) X.xe s
def PT (X : Cx) (e : Expr) (t : TT) : Prop :=
  ∀ (pins : List (Addr × Obj)) (s : Shared) (σ : St) (H : Hp) (Q : Bool → Hp → Prop), Inv X pins σ H s → t σ H Q → wpAny (model X.prog X.w) X.A (isTrue e X.env (eval e X.env)) (TP X pins σ Q) X.xe s
/-- a test whatever its 'whole' is (and, or) -/
def PW (X : Cx) (e : Expr) (t : TT) : Prop :=
  ∀ (whole : Sem Value) (pins : List (Addr × Obj)) (s : Shared) (σ : St) (H : Hp) (Q : Bool → Hp → Prop), Inv X pins σ H s → t σ H Q → wpAny (model X.prog X.w) X.A (isTrue e X.env whole) (TP X pins σ Q) X.xe s
theorem PW.pt {X : Cx} {e : Expr} {t : TT} (h : PW X e t) : PT X e t := h _
/-- an argument list (no star), from the left -/
def PA (X : Cx) (es : List Expr) (t : TA) : Prop :=
  ∀ (pos : Pos) (pins : List (Addr × Obj)) (s : Shared) (σ : St) (H : Hp) (Q : List V → Hp → Prop), Inv X pins σ H s → t σ H Q → wpAny (model X.prog X.w) X.A (spliced (backTo pos (starEach es X.env))) (AP X pins σ Q) X.xe s
def PS (X : Cx) (st : Stmt) (t : TS) : Prop :=
  ∀ (pins : List (Addr × Obj)) (s : Shared) (σ : St) (H : Hp) (D : Ends), Inv X pins σ H s → t D σ H → wpAny (model X.prog X.w) X.A (exec st X.env) (SP X pins D) X.xe s
def PSs (X : Cx) (st : List Stmt) (t : TS) : Prop :=
  ∀ (pins : List (Addr × Obj)) (s : Shared) (σ : St) (H : Hp) (D : Ends), Inv X pins σ H s → t D σ H → wpAny (model X.prog X.w) X.A (execs st X.env) (SP X pins D) X.xe s
/-- weaken the end -/
theorem thn {α : Type} {t : Sem α} {Q Q' : α → Shared → Prop} {M : Model} {A : Around} {E : Value → Shared → Prop} {s : Shared} (h : wpAny M A t Q E s) (hQ : ∀ a s, Q a s → Q' a s) : wpAny M A t Q' E s := wpAny_mono h hQ fun _ _ x => x
end L2

namespace L2
open PySem PySem.Spec PyProof.Rows
section
variable {X : Cx}

/-! ### names and constants -/
def tVar (i : Nat) : TE := fun σ H Q => ∃ v, σ[i]? = some (some v) ∧ Q v H
def tC (v : V) : TE := fun _ H Q => Q v H
theorem pe_var {i : Nat} {x : Str} {pos : Pos} (hN : X.N[i]? = some x) (hv : Vis X.env.scope x) (hd : (x == ("__debug__" : Str)) = false := by decide) (hcd : (x == ("__classdict__" : Str)) = false := by decide) : PE X (.Name x pos) (tVar i) := by
  intro pins s σ H Q I h
  obtain ⟨v, e, h⟩ := h
  obtain ⟨m, hn, hl⟩ := I.loc
  obtain ⟨u, r, l⟩ := hl i x v hN e hv
  have fin : EP X pins σ Q u s := ⟨v, H, I, r, h⟩
  rcases l with ⟨hk, hm⟩ | ⟨hk, c, hc, hcell⟩
  · exact wpAny_Name (wpAny_loadName_local I.ok.kind hk hn hm fin) hd
  · rcases hk with hk | hk
    · exact wpAny_Name (wpAny_loadName_cell I.ok.kind hk hc hcell fin) hd
    · exact wpAny_Name (wpAny_loadName_free I.ok.kind hk hc hcell fin hcd) hd
theorem pe_int {i j pos} : PE X (.Constant (.int i) j pos) (tC (.int i)) := fun _ _ _ H _ I h => wpAny_Constant_int ⟨.int i, H, I.tok _, ⟨_, rfl⟩, h⟩
theorem pe_bl {b j pos} : PE X (.Constant (.bool b) j pos) (tC (.bl b)) := fun _ _ _ H _ I h => Constant_bool ⟨.bl b, H, I, rfl, h⟩
theorem pe_non {j pos} : PE X (.Constant .none j pos) (tC .non) := fun _ _ _ H _ I h => Constant_none ⟨.non, H, I, rfl, h⟩
theorem pe_str {x j pos} : PE X (.Constant (.str x) j pos) (tC (.str x)) := fun _ _ _ H _ I h => Calls.Constant_str ⟨.str x, H, I.tok _, ⟨_, rfl⟩, h⟩

/-- a global name of the def -/
def Gl (X : Cx) (x : Str) : Prop := X.env.kindOf x = some .globalImplicit
theorem ld_glob {E : Value → Shared → Prop} {pins : List (Addr × Obj)} {s : Shared} {σ : St} {H : Hp} {x : Str} {u : Value} {pos : Pos} {Q : Value → Shared → Prop} (I : Inv X pins σ H s) (hg : Gl X x) (hm : X.mg x = some u) (h : Q u s)
    (hd : (x == ("__debug__" : Str)) = false := by decide) : wpAny (model X.prog X.w) X.A (eval (.Name x pos) X.env) Q E s :=
  Calls.Name_function_global I.ok.kind hg (Calls.loadGlobal_global (by rw [I.ok.glob]; exact I.mod.glob.keeps I.bk) hm h) hd
theorem ld_blt {E : Value → Shared → Prop} {pins : List (Addr × Obj)} {s : Shared} {σ : St} {H : Hp} {x : Str} {u : Value} {pos : Pos} {Q : Value → Shared → Prop} (I : Inv X pins σ H s) (hg : Gl X x) (hm : X.mg x = none) (hv : bootBuiltins x = some u) (h : Q u s)
    (hn : x ≠ "__name__" := by decide) (hd : (x == ("__debug__" : Str)) = false := by decide) : wpAny (model X.prog X.w) X.A (eval (.Name x pos) X.env) Q E s := by
  obtain ⟨mb, h1, h2⟩ := I.mod.blt
  exact Calls.Name_function_global I.ok.kind hg (Calls.loadGlobal_builtin (by rw [I.ok.glob]; exact I.mod.glob.keeps I.bk) hm (by rw [I.ok.blt]; exact h1.keeps I.bk) ((h2 x hn).trans hv) h) hd
theorem pe_bltn {x : Str} {v : V} {u : Value} {pos : Pos} (hg : Gl X x) (hm : X.mg x = none) (hv : bootBuiltins x = some u) (r : RelV v u) (hn : x ≠ "__name__" := by decide) (hd : (x == ("__debug__" : Str)) = false := by decide) : PE X (.Name x pos) (tC v) :=
  fun _ _ _ H _ I h => ld_blt I hg hm hv ⟨v, H, I, r, h⟩ hn hd

/-! ### arithmetic -/
variable {a b : Expr} {ta tb : TE} {pos : Pos}
/-! ### comparisons -/
def PC (X : Cx) (op : CmpOp) (a b : Expr) (t : TE) : Prop :=
  ∀ (pins : List (Addr × Obj)) (s : Shared) (σ : St) (H : Hp) (Q : VK), Inv X pins σ H s → t σ H Q →
    wpAny (model X.prog X.w) X.A (eval a X.env) (fun v s₁ => wpAny (model X.prog X.w) X.A (eval b X.env) (fun u s₂ => wpAny (model X.prog X.w) X.A (compareOp op v u) (EP X pins σ Q) X.xe s₂) X.xe s₁) X.xe s
theorem nobehind (b : Expr) {op : CmpOp} (h : op ≠ .In) (h2 : op ≠ .NotIn) : behindInMarks op b = false := by
  have e1 : (op == CmpOp.In) = false := by cases op <;> first | rfl | exact absurd rfl h
  have e2 : (op == CmpOp.NotIn) = false := by cases op <;> first | rfl | exact absurd rfl h2
  cases b <;> simp [behindInMarks, e1, e2]
/-- a comparison as a value, as a test -/
def tB (t : TE) : TT := fun σ H Q => t σ H fun x H1 => ∃ c, x = .bl c ∧ Q c H1
theorem pt_cmp {op : CmpOp} {t : TE} (h : PC X op a b t) (h1 : behindInMarks op b = false := by first | exact nobehind _ (by decide) (by decide) | rfl) : PT X (.Compare a [op] [b] pos) (tB t) := by
  intro pins s σ H Q I hw
  refine wpAny_isTrue_Compare1 (thn (h pins s σ H _ I hw) fun v s1 h1 => thn h1 fun u s2 h2 => thn h2 fun c s3 ⟨x, H1, I1, r1, q1⟩ => ?_) h1
  obtain ⟨d, rfl, q⟩ := q1
  cases r1
  exact wpAny_truthy_bool ⟨H1, I1, q⟩
/-- an expression whose value is a bool, as a test -/
theorem pt_val {e : Expr} {t : TE} (h : PE X e t) (he : ∀ whole, isTrue e X.env whole = (do let v ← whole; standAt e.pos; holding [v] (truthy v)) := by intro _; rfl) : PT X e (tB t) := by
  intro pins s σ H Q I hw
  refine isTrue_plain (thn (h pins s σ H _ I hw) fun v s1 ⟨x, H1, I1, r1, q1⟩ => ?_) (he _)
  obtain ⟨d, rfl, q⟩ := q1
  cases r1
  exact wpAny_truthy_bool ⟨H1, I1, q⟩

/-! ### and, or, not -/
variable {tA tB' : TT} {rest : List Expr}
def tAnd (t u : TT) : TT := fun σ H Q => t σ H fun c H1 => if c = true then u σ H1 Q else Q false H1
def tOr (t u : TT) : TT := fun σ H Q => t σ H fun c H1 => if c = true then Q true H1 else u σ H1 Q
def tNot (t : TT) : TT := fun σ H Q => t σ H fun c H1 => Q (!c) H1
theorem pw_and1 (ha : PT X a tA) : PW X (.BoolOp .And [a] pos) tA := by
  intro wh pins s σ H Q I h
  refine isTrue_and (thn (ha pins s σ H Q I h) fun c s1 e => ?_)
  cases c with
  | true => exact isTrue_and_nil e
  | false => exact e
theorem pw_or1 (ha : PT X a tA) : PW X (.BoolOp .Or [a] pos) tA := by
  intro wh pins s σ H Q I h
  refine isTrue_or (thn (ha pins s σ H Q I h) fun c s1 e => ?_)
  cases c with
  | false => exact isTrue_or_nil e
  | true => exact e
theorem pw_and (ha : PT X a tA) (hb : PW X (.BoolOp .And (b :: rest) pos) tB') : PW X (.BoolOp .And (a :: b :: rest) pos) (tAnd tA tB') := by
  intro wh pins s σ H Q I h
  refine isTrue_and (thn (ha pins s σ H _ I h) fun c s1 ⟨H1, I1, q1⟩ => ?_)
  cases c with
  | true => exact hb wh pins s1 σ H1 Q I1 q1
  | false => exact ⟨H1, I1, q1⟩
theorem pw_or (ha : PT X a tA) (hb : PW X (.BoolOp .Or (b :: rest) pos) tB') : PW X (.BoolOp .Or (a :: b :: rest) pos) (tOr tA tB') := by
  intro wh pins s σ H Q I h
  refine isTrue_or (thn (ha pins s σ H _ I h) fun c s1 ⟨H1, I1, q1⟩ => ?_)
  cases c with
  | true => exact ⟨H1, I1, q1⟩
  | false => exact hb wh pins s1 σ H1 Q I1 q1
theorem pt_not (ha : PT X a tA) : PT X (.UnaryOp .Not a pos) (tNot tA) := by
  intro pins s σ H Q I h
  exact isTrue_not (ha pins s σ H (fun c H1 => Q (!c) H1) I h)
/-- .. as values (bools) -/
def tAndV (ta tb : TE) : TE := fun σ H Q => ta σ H fun x H1 => ∃ c, x = .bl c ∧ if c = true then tb σ H1 Q else Q (.bl false) H1
def tOrV (ta tb : TE) : TE := fun σ H Q => ta σ H fun x H1 => ∃ c, x = .bl c ∧ if c = true then Q (.bl true) H1 else tb σ H1 Q
def tNotV (ta : TE) : TE := fun σ H Q => ta σ H fun x H1 => ∃ c, x = .bl c ∧ Q (.bl (!c)) H1
theorem pe_one {op} {t : TE} (h : PE X a t) : PE X (.BoolOp op [a] pos) t := fun pins s σ H Q I hw => BoolOp_one (h pins s σ H Q I hw)
theorem pe_and (ha : PE X a ta) (hb : PE X (.BoolOp .And (b :: rest) pos) tb) : PE X (.BoolOp .And (a :: b :: rest) pos) (tAndV ta tb) := by
  intro pins s σ H Q I h
  refine BoolOp_and (thn (ha pins s σ H _ I h) fun v s1 ⟨x, H1, I1, r1, q1⟩ => ?_)
  obtain ⟨c, rfl, q1⟩ := q1
  cases r1
  refine wpAny_truthy_bool ?_
  cases c with
  | true => exact hb pins s1 σ H1 Q I1 q1
  | false => exact ⟨.bl false, H1, I1, rfl, q1⟩
theorem pe_or (ha : PE X a ta) (hb : PE X (.BoolOp .Or (b :: rest) pos) tb) : PE X (.BoolOp .Or (a :: b :: rest) pos) (tOrV ta tb) := by
  intro pins s σ H Q I h
  refine BoolOp_or (thn (ha pins s σ H _ I h) fun v s1 ⟨x, H1, I1, r1, q1⟩ => ?_)
  obtain ⟨c, rfl, q1⟩ := q1
  cases r1
  refine wpAny_truthy_bool ?_
  cases c with
  | false => exact hb pins s1 σ H1 Q I1 q1
  | true => exact ⟨.bl true, H1, I1, rfl, q1⟩
theorem pe_not (ha : PE X a ta) : PE X (.UnaryOp .Not a pos) (tNotV ta) := by
  intro pins s σ H Q I h
  refine UnaryOp_ (thn (ha pins s σ H _ I h) fun v s1 ⟨x, H1, I1, r1, q1⟩ => ?_)
  obtain ⟨c, rfl, q1⟩ := q1
  cases r1
  exact not_of (wpAny_truthy_bool ⟨.bl (!c), H1, I1, rfl, q1⟩)
/-- a if t else b -/
def tIf (t : TT) (ta tb : TE) : TE := fun σ H Q => t σ H fun c H1 => if c = true then ta σ H1 Q else tb σ H1 Q
theorem pe_ifExp {c : Expr} (hc : PT X c tA) (ha : PE X a ta) (hb : PE X b tb) : PE X (.IfExp c a b pos) (tIf tA ta tb) := by
  intro pins s σ H Q I h
  refine wpAny_IfExp (thn (hc pins s σ H _ I h) fun d s1 ⟨H1, I1, q1⟩ => ?_)
  cases d with
  | true => exact ha pins s1 σ H1 Q I1 q1
  | false => exact hb pins s1 σ H1 Q I1 q1
end
end L2

namespace L2
open PySem PySem.Spec PyProof.Rows

/-! ### a list, a tuple that is read: tracked, frozen, or an object of the module -/
def SqL (K : PySem.W.Frag) (H : Hp) (a : Addr) (xs : List V) : Prop :=
  Rd H a (.lst xs) ∨
    ∃ (o : Obj) (its : Array Value) (n : Nat), K.lookup a = some o ∧ o.cls = .type "list" ∧ o.dict = none ∧ o.data = .seq its n ∧ its.size ≤ sizeLine ∧ Vals xs its.toList
def SqT (K : PySem.W.Frag) (H : Hp) (a : Addr) (xs : List V) : Prop :=
  Rd H a (.tup xs) ∨
    ∃ (o : Obj) (its : Array Value) (n : Nat), K.lookup a = some o ∧ o.cls = .type "tuple" ∧ o.data = .seq its n ∧ its.size ≤ sizeLine ∧ Vals xs its.toList
def absV : Value → Option V
  | .none => some .non
  | .bool b => some (.bl b)
  | .int i _ => some (.int i)
  | .str x _ => some (.str x)
  | .bytes b _ => some (.byt b)
  | .float b _ => some (.flt b)
  | .ref a => some (.ref a)
  | .type n => some (.ty n)
  | _ => none
theorem RelV.abs {x : V} {u : Value} (r : RelV x u) : absV u = some x := by
  cases x with
  | non => cases r; rfl
  | bl _ => cases r; rfl
  | int _ => obtain ⟨t, rfl⟩ := r; rfl
  | str _ => obtain ⟨t, rfl⟩ := r; rfl
  | byt _ => obtain ⟨t, rfl⟩ := r; rfl
  | flt _ => obtain ⟨t, rfl⟩ := r; rfl
  | ref _ => cases r; rfl
  | ty _ => cases r; rfl
theorem RelV.inj {x y : V} {u : Value} (r : RelV x u) (q : RelV y u) : x = y := Option.some.inj (r.abs.symm.trans q.abs)
theorem Vals.inj {xs ys : List V} {us : List Value} (h : Vals xs us) (h' : Vals ys us) : xs = ys := by
  induction h generalizing ys with
  | nil => cases h'; rfl
  | cons r t ih => cases h' with
    | cons r' t' => rw [r.inj r', ih t']
section
variable {X : Cx} {pins : List (Addr × Obj)} {σ : St} {H : Hp} {s : Shared} {a : Addr} {xs ys : List V}
theorem SqL.of {K : PySem.W.Frag} (h : H a = some (.lst xs)) : SqL K H a xs := .inl (.inl h)
theorem SqT.of {K : PySem.W.Frag} (h : H a = some (.tup xs)) : SqT K H a xs := .inl (.inl h)
theorem Inv.list (I : Inv X pins σ H s) (h : SqL X.K H a xs) : ∃ its : List Value, Vals xs its ∧ PlainL s.heap a its.toArray ∧ xs.length ≤ sizeLine := by
  rcases h with h | ⟨o, its, n, hk, hc, hd, hs, hz, r⟩
  · obtain ⟨z, its, n, r, e⟩ := h.ok I.hok
    exact ⟨its, r, ⟨_, n, e, rfl, rfl, rfl⟩, z⟩
  · refine ⟨its.toList, r, ⟨o, n, I.kIn a o hk, hc, hd, by simpa using hs⟩, ?_⟩
    have e := r.length
    simp only [Array.length_toList] at e
    omega
theorem Inv.tuple (I : Inv X pins σ H s) (h : SqT X.K H a xs) : ∃ its : List Value, Vals xs its ∧ IsTup s.heap a its.toArray ∧ xs.length ≤ sizeLine := by
  rcases h with h | ⟨o, its, n, hk, hc, hs, hz, r⟩
  · obtain ⟨z, its, r, p⟩ := h.ok I.hok
    exact ⟨its, r, p, z⟩
  · refine ⟨its.toList, r, ⟨o, I.kIn a o hk, hc, n, by simpa using hs⟩, ?_⟩
    have e := r.length
    simp only [Array.length_toList] at e
    omega
theorem Inv.list_inj (I : Inv X pins σ H s) (h : SqL X.K H a xs) (h' : SqL X.K H a ys) : xs = ys := by
  obtain ⟨its, r, ⟨o, n, e, _, _, d⟩, _⟩ := I.list h
  obtain ⟨its', r', ⟨o', n', e', _, _, d'⟩, _⟩ := I.list h'
  rw [e] at e'; cases e'
  rw [d] at d'
  injection d' with d1 _
  have : its = its' := by simpa using congrArg Array.toList d1
  subst this
  exact r.inj r'
theorem Inv.tuple_inj (I : Inv X pins σ H s) (h : SqT X.K H a xs) (h' : SqT X.K H a ys) : xs = ys := by
  obtain ⟨its, r, ⟨o, e, _, n, d⟩, _⟩ := I.tuple h
  obtain ⟨its', r', ⟨o', e', _, n', d'⟩, _⟩ := I.tuple h'
  rw [e] at e'; cases e'
  rw [d] at d'
  injection d' with d1 _
  have : its = its' := by simpa using congrArg Array.toList d1
  subst this
  exact r.inj r'
end

/-! ### another wish about exceptions -/
abbrev Cx.wish (X : Cx) (E : Value → Shared → Prop) : Cx := { X with xe := E }
/-- no exception leaves -/
abbrev Cx.nox (X : Cx) : Cx := X.wish fun _ _ => False
theorem Cx.Ok.wish {X : Cx} (ok : X.Ok) (E : Value → Shared → Prop) : (X.wish E).Ok :=
  ⟨ok.mod, ok.kind, ok.glob, ok.blt, ok.above, ok.inj, ok.has, ok.cab, ok.hd, ok.frames, ok.stk, ok.exf, ok.bs, ok.bsz, ok.noex, ok.exfs, ok.funs, ok.frf⟩
theorem Cx.Ok.unwish {X : Cx} {E : Value → Shared → Prop} (ok : (X.wish E).Ok) : X.Ok :=
  ⟨ok.mod, ok.kind, ok.glob, ok.blt, ok.above, ok.inj, ok.has, ok.cab, ok.hd, ok.frames, ok.stk, ok.exf, ok.bs, ok.bsz, ok.noex, ok.exfs, ok.funs, ok.frf⟩
section
variable {X : Cx} {pins : List (Addr × Obj)} {σ : St} {H : Hp} {s : Shared} {E : Value → Shared → Prop}
theorem Inv.wish (I : Inv X pins σ H s) (E : Value → Shared → Prop) : Inv (X.wish E) pins σ H s := ⟨I.ok.wish E, I.os, I.bare, I.base, I.loc, I.cell, I.free, I.freeC, I.pin, I.hok, I.len⟩
theorem Inv.unwish (I : Inv (X.wish E) pins σ H s) : Inv X pins σ H s := ⟨I.ok.unwish, I.os, I.bare, I.base, I.loc, I.cell, I.free, I.freeC, I.pin, I.hok, I.len⟩
theorem SP.unwish {D : Ends} {f : Flow} {s' : Shared} (h : SP (X.wish E) pins D f s') : SP X pins D f s' := by
  cases f with
  | next => obtain ⟨σ', H', I, q⟩ := h; exact ⟨σ', H', I.unwish, q⟩
  | brk => obtain ⟨σ', H', I, q⟩ := h; exact ⟨σ', H', I.unwish, q⟩
  | cont => obtain ⟨σ', H', I, q⟩ := h; exact ⟨σ', H', I.unwish, q⟩
  | ret u => obtain ⟨v, σ', H', I, r, q⟩ := h; exact ⟨v, σ', H', I.unwish, r, q⟩
theorem PSs.nox {st : List Stmt} {t : TS} (h : PSs X.nox st t) : PSs X st t := fun pins s σ H D I hw =>
  wpAny_mono (h pins s σ H D (I.wish _) hw) (fun _ _ q => q.unwish) fun _ _ z => False.elim z
end

/-! ### blocks and small statements -/
section
variable {X : Cx} {st : Stmt} {rest : List Stmt} {t u : TS} {e : Expr} {te : TE} {pos : Pos}
def tNext : TS := fun D σ H => D.nx σ H
def tSeq (t u : TS) : TS := fun D σ H => t { D with nx := u D } σ H
theorem pss_nil : PSs X [] tNext := fun _ _ σ H _ I h => wpAny_execs_nil ⟨σ, H, I, h⟩
theorem pss_cons (h1 : PS X st t) (h2 : PSs X rest u) : PSs X (st :: rest) (tSeq t u) := by
  intro pins s σ H D I h
  refine wpAny_execs_cons (thn (h1 pins s σ H { D with nx := u D } I h) fun f s1 q => ?_)
  cases f with
  | next =>
    obtain ⟨σ', H', I', q⟩ := q
    exact h2 pins s1 σ' H' D I' q
  | ret v => exact q
  | brk => exact q
  | cont => exact q
theorem pss_one (h1 : PS X st t) : PSs X [st] t := by
  intro pins s σ H D I h
  refine wpAny_execs_cons (thn (h1 pins s σ H D I h) fun f s1 q => ?_)
  cases f with
  | next => exact wpAny_execs_nil q
  | ret v => exact q
  | brk => exact q
  | cont => exact q
/-- in a def's body nothing is shown -/
theorem Inv.quiet {pins : List (Addr × Obj)} {σ : St} {H : Hp} {s : Shared} (I : Inv X pins σ H s) : interactive X.env = false := by simp [interactive, I.ok.kind]
/-- an expression whose value is dropped -/
def tDrop (te : TE) : TS := fun D σ H => te σ H fun _ H1 => D.nx σ H1
theorem ps_expr (he : PE X e te) (hs : swapsWith e none pos.line X.env = pure false := by rfl) : PS X (.Expr e pos) (tDrop te) := by
  intro pins s σ H D I h
  exact wpAny_Expr_any (thn (he pins s σ H _ I h) fun v s1 ⟨x, H1, I1, r1, q1⟩ => ⟨σ, H1, I1, q1⟩) I.quiet hs
def tRet (te : TE) : TS := fun D σ H => te σ H D.rt
theorem ps_ret (he : PE X e te) : PS X (.Return (some e) pos) (tRet te) := by
  intro pins s σ H D I h
  exact wpAny_Return_some (thn (he pins s σ H _ I h) fun v s1 ⟨x, H1, I1, r1, q1⟩ => ⟨x, σ, H1, I1, r1, q1⟩)
def tIfS (c : TT) (t u : TS) : TS := fun D σ H => c σ H fun b H1 => if b = true then t D σ H1 else u D σ H1
theorem ps_if {c : Expr} {a b : List Stmt} {tc : TT} (hc : PT X c tc) (ha : PSs X a t) (hb : PSs X b u) : PS X (.If c a b pos) (tIfS tc t u) := by
  intro pins s σ H D I h
  refine wpAny_If (thn (hc pins s σ H _ I h) fun d s1 ⟨H1, I1, q1⟩ => ?_)
  cases d with
  | true => exact ha pins s1 σ H1 D I1 q1
  | false => exact hb pins s1 σ H1 D I1 q1
/-- code that the proof never comes to -/
def tNever : TS := fun _ _ _ => False
theorem ps_never : PS X st tNever := fun _ _ _ _ _ _ h => h.elim
end

/-! ### targets -/
abbrev TG := V → St → Hp → (St → Hp → Prop) → Prop
abbrev TGs := List V → St → Hp → (St → Hp → Prop) → Prop
def PG (X : Cx) (target : Expr) (t : TG) : Prop :=
  ∀ (pins : List (Addr × Obj)) (s : Shared) (σ : St) (H : Hp) (v : V) (u : Value) (Q : St → Hp → Prop), Inv X pins σ H s → RelV v u → t v σ H Q →
    wpAny (model X.prog X.w) X.A (assign target X.env u) (fun _ s' => ∃ σ' H', Inv X pins σ' H' s' ∧ Q σ' H') X.xe s
/-- several targets, one after another -/
def PGs (X : Cx) (ts : List Expr) (t : TGs) : Prop :=
  ∀ (pins : List (Addr × Obj)) (s : Shared) (σ : St) (H : Hp) (vs : List V) (us : List Value) (Q : St → Hp → Prop), Inv X pins σ H s → Vals vs us → t vs σ H Q →
    wpAny (model X.prog X.w) X.A (assignInOrder ((assignEach ts X.env).map (·.2)) us) (fun _ s' => ∃ σ' H', Inv X pins σ' H' s' ∧ Q σ' H') X.xe s
/-- o[i] = v, by values -/
abbrev TSet := V → V → V → Hp → (Hp → Prop) → Prop
def PSet (X : Cx) (t : TSet) : Prop :=
  ∀ (pins : List (Addr × Obj)) (s : Shared) (σ : St) (H : Hp) (o i v : V) (ov iv u : Value) (Q : Hp → Prop), Inv X pins σ H s → RelV o ov → RelV i iv → RelV v u → t o i v H Q →
    wpAny (model X.prog X.w) X.A (setItem ov iv u) (fun _ s' => ∃ H', Inv X pins σ H' s' ∧ Q H') X.xe s
/-- a op= b, by values -/
abbrev TIp := V → V → Hp → VK → Prop
def PIp (X : Cx) (op : Operator) (t : TIp) : Prop :=
  ∀ (pins : List (Addr × Obj)) (s : Shared) (σ : St) (H : Hp) (x y : V) (v u : Value) (Q : VK), Inv X pins σ H s → RelV x v → RelV y u → t x y H Q →
    wpAny (model X.prog X.w) X.A (inplaceOp op v u) (EP X pins σ Q) X.xe s
section
variable {X : Cx} {pos : Pos}
def gName (i : Nat) : TG := fun v σ H Q => Q (σ.set i (some v)) H
theorem pg_name {i : Nat} {x : Str} (hN : X.N.Nodup) (hi : X.N[i]? = some x) (hx : Loc X.env.scope x) (hf : X.fn x = true ∨ X.env.scope.names.lookup x = some .local := by first | exact .inl rfl | exact .inr rfl | assumption) : PG X (.Name x pos) (gName i) := by
  intro pins s σ H v u Q I r h
  exact wpAny_assign_Name (store_ok I hN hi hx r (fun s' I' => ⟨_, H, I', h⟩) hf)
def gNil : TGs := fun vs σ H Q => vs = [] ∧ Q σ H
def gCons (t : TG) (u : TGs) : TGs := fun vs σ H Q => ∃ v r, vs = v :: r ∧ t v σ H fun σ' H' => u r σ' H' Q
theorem pgs_nil : PGs X [] gNil := by
  intro pins s σ H vs us Q I r h
  obtain ⟨e, h⟩ := h
  subst e
  cases r
  exact assignInOrder_nil ⟨σ, H, I, h⟩
theorem pgs_cons {e : Expr} {es : List Expr} {t : TG} {u : TGs} (h1 : PG X e t) (h2 : PGs X es u)
    (hs : (assignEach (e :: es) X.env).map (·.2) = assign e X.env :: (assignEach es X.env).map (·.2) := by rfl) : PGs X (e :: es) (gCons t u) := by
  intro pins s σ H vs us Q I r h
  obtain ⟨v, vr, e1, h⟩ := h
  subst e1
  cases r with
  | cons r rr =>
    rw [hs]
    refine assignInOrder_cons (thn (h1 pins s σ H _ _ _ I r h) fun _ s1 ⟨σ1, H1, I1, q1⟩ => ?_)
    exact h2 pins s1 σ1 H1 _ _ Q I1 rr q1
/-- (a, b, ..) = a tuple of that length -/
def gTup (K : PySem.W.Frag) (n : Nat) (t : TGs) : TG := fun v σ H Q => ∃ a xs, v = .ref a ∧ SqT K H a xs ∧ xs.length = n ∧ t xs σ H Q
theorem pg_tup {es : List Expr} {k : Nat} {t : TGs} {n : Nat} (hc : X.calm = true) (h : PGs X es t)
    (hn : (assignEach es X.env).length = n := by rfl) (hst : (assignEach es X.env).findIdx? (·.1) = none := by rfl) : PG X (.Tuple es k pos) (gTup X.K n t) := by
  intro pins s σ H v u Q I r hw
  obtain ⟨a, xs, e1, hq, hl, hw⟩ := hw
  subst e1
  cases r
  obtain ⟨its, rv, ht, hz⟩ := I.tuple hq
  refine assign_Tuple_tuple (I.ok.hd hc) ht (by simp [hn, ← hl, rv.length]) hst fun h' hx => ?_
  have I1 : Inv X pins σ H { s with heap := h' } := I.kept (t' := s.toks) fun b o e => hx b o (Nat.ne_of_lt (Heap.lt_size e)) e
  exact h pins _ σ H xs _ Q I1 (by simpa using rv) hw
/-- o[i] = .. -/
def gSub (to ti : TE) (t : TSet) : TG := fun v σ H Q => to σ H fun o H1 => ti σ H1 fun i H2 => t o i v H2 fun H3 => Q σ H3
theorem pg_sub {o i : Expr} {to ti : TE} {t : TSet} (ho : PE X o to) (hi : PE X i ti) (hs : PSet X t)
    (ha : ∀ v, assign (.Subscript o i pos) X.env v = (do
      let ov ← holding [v] (eval o X.env)
      let iv ← holding [v, ov] (eval i X.env)
      standAt pos
      holding [v, ov, iv] (setItem ov iv v)
      release [v, ov, iv] []) := by intro _; rfl) : PG X (.Subscript o i pos) (gSub to ti t) := by
  intro pins s σ H v u Q I r h
  rw [ha]
  refine wpAny_bind (wpAny_holding (thn (ho pins s σ H _ I h) fun ov s1 ⟨x, H1, I1, r1, q1⟩ => ?_))
  refine wpAny_bind (wpAny_holding (thn (hi pins s1 σ H1 _ I1 q1) fun iv s2 ⟨y, H2, I2, r2, q2⟩ => ?_))
  refine wpAny_bind (wpAny_standAt (wpAny_bind (wpAny_holding (thn (hs pins s2 σ H2 x y v ov iv u _ I2 r1 r2 r q2) fun _ s3 ⟨H3, I3, q3⟩ => ?_))))
  exact wpAny_release ⟨σ, H3, I3, q3⟩
/-- target = value -/
def tAsg (te : TE) (g : TG) : TS := fun D σ H => te σ H fun x H1 => g x σ H1 D.nx
theorem ps_asg {tg e : Expr} {te : TE} {g : TG} (he : PE X e te) (hg : PG X tg g) (hs : swapsWithSole [tg] e pos.line X.env = pure false := by rfl) (hw : swappedStores [tg] e X.env = pure none := by rfl)
    (h1 : (assignEach [tg] X.env).map (·.2) = [assign tg X.env] := by rfl) : PS X (.Assign [tg] e pos) (tAsg te g) := by
  intro pins s σ H D I h
  refine wpAny_Assign_stores (thn (he pins s σ H _ I h) fun v s1 ⟨x, H1, I1, r1, q1⟩ => ?_) hs hw
  rw [h1]
  exact thn (hg pins s1 σ H1 x v _ I1 r1 q1) fun _ s2 q => q
/-- name = value -/
theorem ps_set {i : Nat} {x : Str} {e : Expr} {te : TE} {pos' : Pos} (hN : X.N.Nodup) (hi : X.N[i]? = some x) (hx : Loc X.env.scope x) (he : PE X e te) (hs : swapsWith e (some (.Name x pos')) pos.line X.env = pure false := by rfl) (hf : X.fn x = true ∨ X.env.scope.names.lookup x = some .local := by first | exact .inl rfl | exact .inr rfl | assumption) :
    PS X (.Assign [.Name x pos'] e pos) (tAsg te (gName i)) := by
  intro pins s σ H D I h
  refine wpAny_Assign_Name (thn (he pins s σ H _ I h) fun v s1 ⟨y, H1, I1, r1, q1⟩ => ?_) hs
  exact store_ok I1 hN hi hx r1 (fun s2 I2 => ⟨_, H1, I2, q1⟩) hf
/-- o[i] op= e -/
def tAugS (to ti te : TE) (tget : V → V → Hp → VK → Prop) (tip : TIp) (tset : TSet) : TS := fun D σ H => to σ H fun o H1 => ti σ H1 fun i H2 => tget o i H2 fun x H3 => te σ H3 fun y H4 => tip x y H4 fun z H5 => tset o i z H5 fun H6 => D.nx σ H6
/-- o[i], by values -/
def PGet (X : Cx) (t : V → V → Hp → VK → Prop) : Prop :=
  ∀ (pins : List (Addr × Obj)) (s : Shared) (σ : St) (H : Hp) (o i : V) (ov iv : Value) (Q : VK), Inv X pins σ H s → RelV o ov → RelV i iv → t o i H Q →
    wpAny (model X.prog X.w) X.A (getItem ov iv) (EP X pins σ Q) X.xe s
theorem ps_augS {o i e : Expr} {to ti te : TE} {tget : V → V → Hp → VK → Prop} {tip : TIp} {tset : TSet} {op : Operator} {tpos : Pos} (ho : PE X o to) (hi : PE X i ti) (hg : PGet X tget) (he : PE X e te) (hp : PIp X op tip) (hs : PSet X tset)
    (ha : ∀ ov iv new, augStore i ov iv new = (do holding [new, ov, iv] (setItem ov iv new); release [new, ov, iv] []; pure .next) := by intros; rfl) : PS X (.AugAssign (.Subscript o i tpos) op e pos) (tAugS to ti te tget tip tset) := by
  intro pins s σ H D I h
  refine wpAny_AugAssign_SubscriptAny (thn (ho pins s σ H _ I h) fun ov s1 ⟨x1, H1, I1, r1, q1⟩ => ?_) ha
  refine thn (hi pins s1 σ H1 _ I1 q1) fun iv s2 ⟨x2, H2, I2, r2, q2⟩ => ?_
  refine thn (hg pins s2 σ H2 x1 x2 ov iv _ I2 r1 r2 q2) fun old s3 ⟨x3, H3, I3, r3, q3⟩ => ?_
  refine thn (he pins s3 σ H3 _ I3 q3) fun v s4 ⟨x4, H4, I4, r4, q4⟩ => ?_
  refine thn (hp pins s4 σ H4 x3 x4 old v _ I4 r3 r4 q4) fun new s5 ⟨x5, H5, I5, r5, q5⟩ => ?_
  exact thn (hs pins s5 σ H5 x1 x2 x5 ov iv new _ I5 r1 r2 r5 q5) fun _ s6 ⟨H6, I6, q6⟩ => ⟨σ, H6, I6, q6⟩
/-- ints -/
def ipI (f : Int → Int → Int) : TIp := fun x y H Q => ∃ i j, x = .int i ∧ y = .int j ∧ Q (.int (f i j)) H
theorem ip_add : PIp X .Add (ipI fun i j => i + j) := by
  intro pins s σ H x y v u Q I r1 r2 h
  obtain ⟨i, j, e1, e2, q⟩ := h
  subst e1; subst e2
  obtain ⟨t, rfl⟩ := r1
  obtain ⟨t', rfl⟩ := r2
  exact iadd_int ⟨.int _, H, I.tok _, ⟨_, rfl⟩, q⟩
end

/-! ### while -/
section
variable {X : Cx} {pos : Pos}
/-- the invariant W with its measure -/
def tWhile (c : TT) (tb : TS) : TS := fun D σ H => ∃ W : Nat → St → Hp → Prop, (∃ m, W m σ H) ∧ ∀ m σ H, W m σ H →
  c σ H fun b H1 => if b = true then ∃ N : St → Hp → Prop, (∀ σ' H', N σ' H' → ∃ m', m' < m ∧ W m' σ' H') ∧ tb { D with nx := N, ct := N, bk := D.nx } σ H1 else D.nx σ H1
theorem ps_while {c : Expr} {body : List Stmt} {tc : TT} {tb : TS} (hp : PassesOwn (model X.prog X.w) X.A X.env X.xe) (hc : PT X c tc) (hb : PSs X body tb) : PS X (.While c body [] pos) (tWhile tc tb) := by
  intro pins s σ H D I h
  obtain ⟨W, ⟨m0, w0⟩, turn⟩ := h
  refine wpAny_While (codeAny_whileLoop (fun n s' => ∃ σ' H', Inv X pins σ' H' s' ∧ W n σ' H') ?_ m0 ⟨σ, H, I, w0⟩)
  rintro n s1 ⟨σ1, H1, I1, w1⟩
  refine wpAny_passesOwn hp (thn (hc pins s1 σ1 H1 _ I1 (turn n σ1 H1 w1)) fun b s2 ⟨H2, I2, q2⟩ => ?_)
  cases b with
  | true =>
    obtain ⟨N, hN, q2⟩ := q2
    rw [if_pos rfl]
    refine wpAny_passesOwn hp (thn (hb pins s2 σ1 H2 _ I2 q2) fun f s3 q3 => ?_)
    cases f with
    | next =>
      obtain ⟨σ3, H3, I3, n3⟩ := q3
      obtain ⟨m', hm, w3⟩ := hN σ3 H3 n3
      exact ⟨m', hm, σ3, H3, I3, w3⟩
    | cont =>
      obtain ⟨σ3, H3, I3, n3⟩ := q3
      obtain ⟨m', hm, w3⟩ := hN σ3 H3 n3
      exact ⟨m', hm, σ3, H3, I3, w3⟩
    | brk => exact q3
    | ret v => exact q3
  | false =>
    rw [if_neg Bool.false_ne_true]
    exact wpAny_execs_nil ⟨σ1, H2, I2, q2⟩
end

/-! ### what a loop or a comprehension walks -/
/-- at turn i: it yields x (the heap may grow), or it stops -/
structure It where
  go : Nat → Hp → Prop
  yld : Nat → Hp → V → Hp → Prop
  stop : Nat → Hp → Prop
/-- the iterator's own objects may turn: they are not the frame's, not pinned, younger than the entry (or a comprehension's own) -/
def FpOk (X : Cx) (pins : List (Addr × Obj)) (H : Hp) (b : Addr) : Prop :=
  H b = none ∧ b ≠ X.env.locals ∧ b ∉ X.fs ∧ (b ∈ X.ex ∨ X.s₀.heap.objs.size ≤ b) ∧ (∀ x c, X.env.cells.lookup x = some c → c ≠ b) ∧ ∀ p ∈ X.pn ++ pins, p.1 ≠ b
theorem Inv.fpOk {X : Cx} {pins : List (Addr × Obj)} {σ : St} {H H' : Hp} {s : Shared} {b : Addr} (I : Inv X pins σ H s) (hb : s.heap.objs.size ≤ b) (hn : H' b = none) : FpOk X pins H' b := by
  refine ⟨hn, Nat.ne_of_gt (Nat.lt_of_lt_of_le I.lt hb), I.nofs hb, .inr (Nat.le_trans I.sz hb), fun x c e z => ?_, fun p hp z => ?_⟩
  · obtain ⟨v, q⟩ := I.cell x c e
    exact absurd (Nat.lt_of_lt_of_le q.lt (by rw [z]; exact hb)) (Nat.lt_irrefl _)
  · exact absurd (Nat.lt_of_lt_of_le (Heap.lt_size (I.pin p hp).1) (by rw [z]; exact hb)) (Nat.lt_irrefl _)
structure Turn (P : Program) (w : World) (K : PySem.W.Frag) (tg : Expr) (J : It) (fp : List Addr) (it : Addr) (tn : Nat → Heap → Prop) : Prop where
  mem : it ∈ fp
  obj : ∀ i h, tn i h → ∀ b ∈ fp, ∃ o, h.get? b = some o ∧ ∀ v, o.data ≠ .cell v
  keep : ∀ i h h', tn i h → (∀ b ∈ fp, ∀ o, h.get? b = some o → h'.get? b = some o) → tn i h'
  item : ∀ (X : Cx), X.prog = P → X.w = w → X.K = K → X.calm = true → ∀ (i : Nat) (pins : List (Addr × Obj)) (s : Shared) (σ : St) (H : Hp) (E : Value → Shared → Prop), Inv X pins σ H s → (∀ b ∈ fp, FpOk X pins H b) → tn i s.heap → J.go i H →
    wpAny (model P w) X.A (pyNext (.ref it)) (fun r s1 => ∃ u, r = some u ∧
      wpAny (model P w) X.A (letOwnedTupleGo tg (.ref it) u) (fun _ s2 => ∃ x H', Inv X pins σ H' s2 ∧ RelV x u ∧ J.yld i H x H' ∧ tn (i + 1) s2.heap ∧ ∀ b ∈ fp, H' b = none) E s1) E s
  done : ∀ (X : Cx), X.prog = P → X.w = w → X.K = K → X.calm = true → ∀ (i : Nat) (pins : List (Addr × Obj)) (s : Shared) (σ : St) (H : Hp) (E : Value → Shared → Prop), Inv X pins σ H s → (∀ b ∈ fp, FpOk X pins H b) → tn i s.heap → J.stop i H →
    wpAny (model P w) X.A (pyNext (.ref it)) (fun r s1 => r = none ∧ Inv X pins σ H s1) E s
  self : ∀ (A : Around) (i : Nat) (s : Shared) (Q : Value → Shared → Prop) (E : Value → Shared → Prop), tn i s.heap → Q (.ref it) s → wpAny (model P w) A (pyIter (.ref it)) Q E s
abbrev TI := St → Hp → (It → Hp → Prop) → Prop
/-- an iterator has come -/
def PIE (X : Cx) (pins : List (Addr × Obj)) (σ : St) (tg : Expr) (R : It → Hp → Prop) (itv : Value) (s2 : Shared) : Prop :=
  ∃ (it : Addr) (fp : List Addr) (tn : Nat → Heap → Prop) (J : It) (H' : Hp), itv = .ref it ∧ Inv X pins σ H' s2 ∧ Turn X.prog X.w X.K tg J fp it tn ∧ tn 0 s2.heap ∧ (∀ b ∈ fp, FpOk X pins H' b) ∧ R J H'
def PI (X : Cx) (tg iter : Expr) (wi : TI) : Prop :=
  ∀ (pins : List (Addr × Obj)) (s : Shared) (σ : St) (H : Hp) (R : It → Hp → Prop), Inv X pins σ H s → wi σ H R →
    wpAny (model X.prog X.w) X.A (eval iter X.env) (fun v s1 => wpAny (model X.prog X.w) X.A (pyIter v) (PIE X pins σ tg R) X.xe s1) X.xe s

/-- the step ahead of the store is nothing for an iterator that keeps no tuple -/
theorem go_of {M : Model} {A : Around} {E : Value → Shared → Prop} {s : Shared} {tg : Expr} {it : Addr} {u : Value} {o : Obj} {n : String} {vs : Array Value} {Q : Unit → Shared → Prop} (ho : s.heap.get? it = some o) (hc : o.cls = .type n) (hd : o.data = .fields vs)
    (hn : ["enumerate", "zip", "dict_itemiterator", "dict_reverseitemiterator", "odict_iterator", "itertools.zip_longest", "itertools.pairwise"].contains n = false) (hQ : Q () s) : wpAny M A (letOwnedTupleGo tg (.ref it) u) Q E s := by
  unfold letOwnedTupleGo
  cases tg <;> first
    | exact wpAny_pure hQ
    | (cases u <;> first
        | exact wpAny_pure hQ
        | (refine wpAny_bind (wpAny_load ho ?_)
           rw [hc, hd]
           show wpAny M A (if (["enumerate", "zip", "dict_itemiterator", "dict_reverseitemiterator", "odict_iterator", "itertools.zip_longest", "itertools.pairwise"].contains n && vs[0]? == some (rawInt _)) = true then _ else _) Q E s
           rw [if_neg (by intro h; rw [hn, Bool.false_and] at h; cases h)]
           exact wpAny_pure hQ))

/-- the list at a, as it stands at each turn (a loop may append to it) -/
def Itl (K : PySem.W.Frag) (a : Addr) : It :=
  ⟨fun i H => ∃ xs x, SqL K H a xs ∧ xs[i]? = some x, fun i H x H' => H' = H ∧ ∀ xs, SqL K H a xs → xs[i]? = some x, fun i H => ∃ xs, SqL K H a xs ∧ xs.length ≤ i⟩
def Itt (K : PySem.W.Frag) (a : Addr) : It :=
  ⟨fun i H => ∃ xs x, SqT K H a xs ∧ xs[i]? = some x, fun i H x H' => H' = H ∧ ∀ xs, SqT K H a xs → xs[i]? = some x, fun i H => ∃ xs, SqT K H a xs ∧ xs.length ≤ i⟩
/-- lo, lo + 1, .. (n of them) -/
def Itr (lo : Int) (n : Nat) : It := ⟨fun i _ => i < n, fun i H x H' => H' = H ∧ x = .int (lo + i), fun i _ => n ≤ i⟩
theorem turn_list {P : Program} {w : World} {K : PySem.W.Frag} {tg : Expr} (a it : Addr) : Turn P w K tg (Itl K a) [it] it (fun i h => h.IsListIter it a i) where
  mem := by simp
  obj := fun i h st b hb => by
    have e : b = it := by simpa using hb
    subst e
    obtain ⟨o, e, c, d⟩ := st
    exact ⟨o, e, fun v z => by rw [d] at z; cases z⟩
  keep := fun i h h' st k => st.at fun o e => k it (by simp) o e
  item := by
    intro X hP hw hK hc i pins s σ H E I hf st hg
    subst hP hw hK
    obtain ⟨xs, x, hq, hx⟩ := hg
    obtain ⟨its, rv, p, hz⟩ := I.list hq
    obtain ⟨u, hu, ru⟩ := rv.get hx
    obtain ⟨f0, f1, f2, f3, f4, f5⟩ := hf it (by simp)
    refine wpAny_pyNext_list_item st p.isList (x := u) (by simpa using hu) fun h' st' sb => ?_
    have I1 : Inv X pins σ H { s with heap := h' } := I.turned (t' := s.toks) (fun b o hb e => (sb.2 b hb).trans e) f0 f1 f3 f4 f5
    obtain ⟨o, e, c, d⟩ := id st'
    exact ⟨u, rfl, go_of (s := { s with heap := h' }) e c d (by decide) ⟨x, H, I1, ru, ⟨rfl, fun ys hy => by rw [I.list_inj hy hq]; exact hx⟩, st', fun b hb => (hf b hb).1⟩⟩
  done := by
    intro X hP hw hK hc i pins s σ H E I hf st hg
    subst hP hw hK
    obtain ⟨xs, hq, hx⟩ := hg
    obtain ⟨its, rv, p, hz⟩ := I.list hq
    obtain ⟨f0, f1, f2, f3, f4, f5⟩ := hf it (by simp)
    have hl := rv.length
    exact wpAny_pyNext_list_end (I.ok.hd hc) st p.isList (by simp; omega) fun h' eb => ⟨rfl, I.turned (t' := s.toks) (fun b o hb e => eb b o hb e) f0 f1 f3 f4 f5⟩
  self := fun _ _ _ _ _ st h => wpAny_pyIter_listiter st h
theorem turn_tuple {P : Program} {w : World} {K : PySem.W.Frag} {tg : Expr} (a it : Addr) : Turn P w K tg (Itt K a) [it] it (fun i h => h.IsTupleIter it a i) where
  mem := by simp
  obj := fun i h st b hb => by
    have e : b = it := by simpa using hb
    subst e
    obtain ⟨o, e, c, d⟩ := st
    exact ⟨o, e, fun v z => by rw [d] at z; cases z⟩
  keep := fun i h h' st k => st.at fun o e => k it (by simp) o e
  item := by
    intro X hP hw hK hc i pins s σ H E I hf st hg
    subst hP hw hK
    obtain ⟨xs, x, hq, hx⟩ := hg
    obtain ⟨its, rv, p, hz⟩ := I.tuple hq
    obtain ⟨u, hu, ru⟩ := rv.get hx
    obtain ⟨f0, f1, f2, f3, f4, f5⟩ := hf it (by simp)
    refine wpAny_pyNext_tuple_item st (show s.heap.IsTuple a its.toArray from p) (x := u) (by simpa using hu) fun h' st' sb => ?_
    have I1 : Inv X pins σ H { s with heap := h' } := I.turned (t' := s.toks) (fun b o hb e => (sb.2 b hb).trans e) f0 f1 f3 f4 f5
    obtain ⟨o, e, c, d⟩ := id st'
    exact ⟨u, rfl, go_of (s := { s with heap := h' }) e c d (by decide) ⟨x, H, I1, ru, ⟨rfl, fun ys hy => by rw [I.tuple_inj hy hq]; exact hx⟩, st', fun b hb => (hf b hb).1⟩⟩
  done := by
    intro X hP hw hK hc i pins s σ H E I hf st hg
    subst hP hw hK
    obtain ⟨xs, hq, hx⟩ := hg
    obtain ⟨its, rv, p, hz⟩ := I.tuple hq
    obtain ⟨f0, f1, f2, f3, f4, f5⟩ := hf it (by simp)
    have hl := rv.length
    exact wpAny_pyNext_tuple_end (I.ok.hd hc) st (show s.heap.IsTuple a its.toArray from p) (by simp; omega) fun h' eb => ⟨rfl, I.turned (t' := s.toks) (fun b o hb e => eb b o hb e) f0 f1 f3 f4 f5⟩
  self := fun _ _ _ _ _ st h => wpAny_pyIter_tupleiter st h
theorem turn_range {P : Program} {w : World} {K : PySem.W.Frag} {tg : Expr} (it : Addr) (lo : Int) (n : Nat) : Turn P w K tg (Itr lo n) [it] it (fun i h => IsRangeIter h it (lo + (i : Nat) * 1) ((n : Int) - (i : Nat)) 1) where
  mem := by simp
  obj := fun i h st b hb => by
    have e : b = it := by simpa using hb
    subst e
    exact ⟨_, st, fun v z => by
      have z' : Data.fields _ = Data.cell v := z
      cases z'⟩
  keep := fun i h h' st k => k it (by simp) _ st
  item := by
    intro X hP hw hK hc i pins s σ H E I hf st hg
    subst hP hw hK
    obtain ⟨f0, f1, f2, f3, f4, f5⟩ := hf it (by simp)
    have W := Walks.range (prog := X.prog) (w := X.w) (I.ok.hd hc) it lo 1 n
    refine W.item i s _ _ hg st fun v h' tk hv st' kk => ?_
    obtain ⟨t, rfl⟩ := hv
    have I1 : Inv X pins σ H { s with heap := h', toks := tk } := I.turned (fun b o hb e => kk b o (by simpa using hb) e) f0 f1 f3 f4 f5
    refine ⟨_, rfl, go_of (s := { s with heap := h', toks := tk }) (n := "range_iterator") st' rfl rfl (by decide) ⟨.int (lo + i), H, I1, ⟨t, ?_⟩, ⟨rfl, rfl⟩, st', fun b hb => (hf b hb).1⟩⟩
    rw [Int.mul_one]
  done := by
    intro X hP hw hK hc i pins s σ H E I hf st hg
    subst hP hw hK
    obtain ⟨f0, f1, f2, f3, f4, f5⟩ := hf it (by simp)
    exact wpAny_pyNext_range_end (I.ok.hd hc) st (by have : n ≤ i := hg; omega) fun h' eb => ⟨rfl, I.turned (t' := s.toks) (fun b o hb e => eb b o hb e) f0 f1 f3 f4 f5⟩
  self := fun _ _ _ _ _ st h => wpAny_pyIter_rangeiter st h
end L2

namespace L2
open PySem PySem.Spec PyProof.Rows
section
variable {X : Cx} {tg : Expr}
def iList (K : PySem.W.Frag) (tl : TE) : TI := fun σ H R => tl σ H fun x H1 => ∃ a, x = .ref a ∧ (∃ xs, SqL K H1 a xs) ∧ R (Itl K a) H1
def iTup (K : PySem.W.Frag) (tl : TE) : TI := fun σ H R => tl σ H fun x H1 => ∃ a, x = .ref a ∧ (∃ xs, SqT K H1 a xs) ∧ R (Itt K a) H1
theorem pi_list {l : Expr} {tl : TE} (hl : PE X l tl) : PI X tg l (iList X.K tl) := by
  intro pins s σ H R I h
  refine thn (hl pins s σ H _ I h) fun v s1 ⟨x, H1, I1, r1, q1⟩ => ?_
  obtain ⟨a, e, ⟨xs, hq⟩, q⟩ := q1
  subst e
  cases r1
  obtain ⟨its, rv, p, hz⟩ := I1.list hq
  refine wpAny_pyIter_list p.isList ?_
  refine ⟨s1.heap.objs.size, [s1.heap.objs.size], _, _, H1, rfl, I1.kept (t' := s1.toks) fun b o e => Heap.get?_push_of_some _ e, turn_list a _, ⟨_, Heap.get?_push_size _ rfl, rfl, rfl⟩, fun b hb => ?_, q⟩
  have e : b = s1.heap.objs.size := by simpa using hb
  subst e
  exact I1.fpOk (Nat.le_refl _) (I1.hok.fresh (Nat.le_refl _))
theorem pi_tup {l : Expr} {tl : TE} (hl : PE X l tl) : PI X tg l (iTup X.K tl) := by
  intro pins s σ H R I h
  refine thn (hl pins s σ H _ I h) fun v s1 ⟨x, H1, I1, r1, q1⟩ => ?_
  obtain ⟨a, e, ⟨xs, hq⟩, q⟩ := q1
  subst e
  cases r1
  obtain ⟨its, rv, p, hz⟩ := I1.tuple hq
  refine wpAny_pyIter_tuple (show s1.heap.IsTuple a its.toArray from p) ?_
  refine ⟨s1.heap.objs.size, [s1.heap.objs.size], _, _, H1, rfl, I1.kept (t' := s1.toks) fun b o e => Heap.get?_push_of_some _ e, turn_tuple a _, ⟨_, Heap.get?_push_size _ rfl, rfl, rfl⟩, fun b hb => ?_, q⟩
  have e : b = s1.heap.objs.size := by simpa using hb
  subst e
  exact I1.fpOk (Nat.le_refl _) (I1.hok.fresh (Nat.le_refl _))
/-- a range object just made, walked -/
theorem range_it {pins : List (Addr × Obj)} {σ : St} {H : Hp} {s : Shared} {R : It → Hp → Prop} {E : Value → Shared → Prop} {lo hi : Int} {t u v : Tok} {tk : Nat} (I : Inv X pins σ H s) (h1 : -(2 ^ 62) ≤ lo) (h2 : lo < 2 ^ 62) (h3 : -(2 ^ 62) ≤ hi) (h4 : hi < 2 ^ 62)
    (q : R (Itr lo (hi - lo).toNat) H) : wpAny (model X.prog X.w) X.A (pyIter (.ref s.heap.objs.size)) (PIE X pins σ tg R) E { s with heap := s.heap.push { cls := .type "range", data := .fields #[.int lo t, .int hi u, .int 1 v] }, toks := tk } := by
  refine wpAny_pyIter_range (IsRange.new ..) (small_one h1 h2 h3 h4) ?_
  have I1 : Inv X pins σ H { s with heap := s.heap.push { cls := .type "range", data := .fields #[.int lo t, .int hi u, .int 1 v] }, toks := tk } := I.kept fun b o e => Heap.get?_push_of_some _ e
  refine ⟨(s.heap.push { cls := .type "range", data := .fields #[.int lo t, .int hi u, .int 1 v] }).objs.size, [(s.heap.push { cls := .type "range", data := .fields #[.int lo t, .int hi u, .int 1 v] }).objs.size], _, _, H, rfl,
    I1.kept (t' := tk) fun b o e => Heap.get?_push_of_some _ e, turn_range _ lo (hi - lo).toNat, ?_, fun b hb => ?_, q⟩
  · have e1 : lo + ((0 : Nat) : Int) * 1 = lo := by simp
    have e2 : (((hi - lo).toNat : Nat) : Int) - ((0 : Nat) : Int) = Builtin.Range.rangeSize lo hi 1 := by rw [rangeSize_one]; split <;> omega
    show IsRangeIter _ _ (lo + ((0 : Nat) : Int) * 1) ((((hi - lo).toNat : Nat) : Int) - ((0 : Nat) : Int)) 1
    rw [e1, e2]
    exact Heap.get?_push_size _ rfl
  · have e : b = (s.heap.push { cls := .type "range", data := .fields #[.int lo t, .int hi u, .int 1 v] }).objs.size := by simpa using hb
    subst e
    exact I1.fpOk (Nat.le_refl _) (I1.hok.fresh (Nat.le_refl _))
def iRng1 (ta : TA) : TI := fun σ H R => ta σ H fun vs H1 => ∃ j : Int, vs = [.int j] ∧ -(2 ^ 62) ≤ j ∧ j < 2 ^ 62 ∧ R (Itr 0 j.toNat) H1
theorem pi_range1 {a : Expr} {ta : TA} {p pos : Pos} (hg : Gl X "range") (hm : X.mg "range" = none) (ha : PA X [a] ta) (hs : starEach [a] X.env = [(false, eval a X.env)] := by rfl) : PI X tg (.Call (.Name "range" p) [a] [] pos) (iRng1 ta) := by
  intro pins s σ H R I h
  refine Call_ (ld_blt I hg hm boot_range (PyProof.Rows.callWith_type1 (thn (ha pos pins s σ H _ I h) fun us s1 ⟨vs, H1, I1, r1, q1⟩ => ?_) hs rfl))
  obtain ⟨j, e, q1, q2, q⟩ := q1
  subst e
  cases r1 with
  | cons r rr =>
    cases rr
    obtain ⟨t, rfl⟩ := r
    exact call_range_1 (range_it I1 (by omega) (by omega) q1 q2 (by simpa using q))
/-! ### for -/
/-- W: the invariant by the turn and a measure; N: what the body is to reach -/
def tFor (wi : TI) (g : TG) (tb : TS) : TS := fun D σ H => wi σ H fun J H1 => ∃ W : Nat → Nat → St → Hp → Prop, (∃ m, W 0 m σ H1) ∧ ∀ i m σ H, W i m σ H →
  (J.stop i H ∧ D.nx σ H) ∨ (J.go i H ∧ ∃ N : St → Hp → Prop, (∀ σ' H', N σ' H' → ∃ m', m' < m ∧ W (i + 1) m' σ' H') ∧ ∀ x H', J.yld i H x H' → g x σ H' fun σ2 H2 => tb { D with nx := N, ct := N, bk := D.nx } σ2 H2)
/-- the records at fp as they stand -/
def pinsAt (fp : List Addr) (h : Heap) : List (Addr × Obj) := fp.filterMap fun b => (h.get? b).map fun o => (b, o)
theorem mem_pinsAt {fp : List Addr} {h : Heap} {b : Addr} {o : Obj} (hb : b ∈ fp) (e : h.get? b = some o) : (b, o) ∈ pinsAt fp h := List.mem_filterMap.mpr ⟨b, hb, by rw [e]; rfl⟩
theorem of_pinsAt {fp : List Addr} {h : Heap} {p : Addr × Obj} (hp : p ∈ pinsAt fp h) : p.1 ∈ fp ∧ h.get? p.1 = some p.2 := by
  obtain ⟨b, hb, e⟩ := List.mem_filterMap.mp hp
  cases q : h.get? b with
  | none => rw [q] at e; cases e
  | some o =>
    rw [q] at e
    have e' : (b, o) = p := Option.some.inj e
    subst e'
    exact ⟨hb, q⟩
theorem Inv.pinned {pins : List (Addr × Obj)} {σ : St} {H : Hp} {s : Shared} {fp : List Addr} (I : Inv X pins σ H s) (hf : ∀ b ∈ fp, FpOk X pins H b) (ho : ∀ b ∈ fp, ∃ o, s.heap.get? b = some o ∧ ∀ v, o.data ≠ .cell v) : Inv X (pins ++ pinsAt fp s.heap) σ H s :=
  I.pins_of fun p hp => (List.mem_append.mp hp).elim (fun z => I.pin p (List.mem_append_right _ z)) fun z => by
    obtain ⟨hb, e⟩ := of_pinsAt z
    obtain ⟨f0, f1, f2, _⟩ := hf p.1 hb
    obtain ⟨o, e', d⟩ := ho p.1 hb
    rw [e] at e'; cases e'
    exact ⟨e, f0, f1, f2, d⟩
theorem Inv.unpinned {pins pl : List (Addr × Obj)} {σ : St} {H : Hp} {s : Shared} (I : Inv X (pins ++ pl) σ H s) : Inv X pins σ H s := I.pins_of fun p hp => I.pin p (List.mem_append_right _ (List.mem_append_left _ hp))
theorem ps_for {iter : Expr} {body : List Stmt} {wi : TI} {g : TG} {tb : TS} {pos : Pos} (hp : PassesOwn (model X.prog X.w) X.A X.env X.xe) (hc : X.calm = true) (hi : PI X tg iter wi) (hg : PG X tg g) (hb : PSs X body tb)
    (hs : ∀ x, foldedSetIterable iter X.env x = pure x := by intro _; rfl) : PS X (.For tg iter body [] pos) (tFor wi g tb) := by
  intro pins s σ H D I h
  refine wpAny_For (thn (hi pins s σ H _ I h) fun v s1 h1 => thn h1 fun itv s2 h2 => ?_) hs
  obtain ⟨it, fp, tn, J, H2, e, I2, T, st2, f2, W, ⟨m0, w0⟩, turn⟩ := h2
  subst e
  -- what stays true of the iterator's objects through the loop
  have stat : ∀ {H' : Hp}, (∀ b ∈ fp, H' b = none) → ∀ b ∈ fp, FpOk X pins H' b := fun hn b hb => ⟨hn b hb, (f2 b hb).2⟩
  refine codeAny_forLoop_any (fun n s' => ∃ i σ' H', Inv X pins σ' H' s' ∧ tn i s'.heap ∧ (∀ b ∈ fp, H' b = none) ∧ W i n σ' H') ?_ m0 ⟨0, σ, H2, I2, st2, fun b hb => (f2 b hb).1, w0⟩
  rintro n s3 ⟨i, σ3, H3, I3, st3, fr3, w3⟩
  rcases turn i n σ3 H3 w3 with ⟨stop, qn⟩ | ⟨go, N, hN, step⟩
  · refine wpAny_passesOwn hp (thn (T.done X rfl rfl rfl hc i pins s3 σ3 H3 X.xe I3 (stat fr3) st3 stop) fun r s4 ⟨hr, I4⟩ => ?_)
    subst hr
    exact wpAny_execs_nil ⟨σ3, H3, I4, qn⟩
  · refine wpAny_passesOwn hp (thn (T.item X rfl rfl rfl hc i pins s3 σ3 H3 X.xe I3 (stat fr3) st3 go) fun r s4 ⟨u, hr, h4⟩ => ?_)
    subst hr
    refine wpAny_passesOwn hp (thn h4 fun _ s5 ⟨x, H5, I5, r5, y5, st5, fr5⟩ => ?_)
    have I5' := I5.pinned (stat fr5) (T.obj _ _ st5)
    refine wpAny_passesOwn hp (thn (hg _ s5 σ3 H5 x u _ I5' r5 (step x H5 y5)) fun _ s6 ⟨σ6, H6, I6, q6⟩ => ?_)
    refine wpAny_passesOwn hp (thn (hb _ s6 σ6 H6 _ I6 q6) fun f s7 q7 => ?_)
    have again : ∀ {σ7 : St} {H7 : Hp}, Inv X (pins ++ pinsAt fp s5.heap) σ7 H7 s7 → N σ7 H7 → ∃ m, m < n ∧ ∃ i σ' H', Inv X pins σ' H' s7 ∧ tn i s7.heap ∧ (∀ b ∈ fp, H' b = none) ∧ W i m σ' H' := fun {σ7 H7} I7 n7 => by
      obtain ⟨m', hm, w7⟩ := hN σ7 H7 n7
      refine ⟨m', hm, i + 1, σ7, H7, I7.unpinned, T.keep _ _ _ st5 fun b hb o e => (I7.pin (b, o) (List.mem_append_right _ (List.mem_append_right _ (mem_pinsAt hb e)))).1, fun b hb => ?_, w7⟩
      obtain ⟨o, e, d⟩ := T.obj _ _ st5 b hb
      exact (I7.pin (b, o) (List.mem_append_right _ (List.mem_append_right _ (mem_pinsAt hb e)))).2.1
    cases f with
    | next => obtain ⟨σ7, H7, I7, n7⟩ := q7; exact again I7 n7
    | cont => obtain ⟨σ7, H7, I7, n7⟩ := q7; exact again I7 n7
    | brk => obtain ⟨σ7, H7, I7, q7⟩ := q7; exact ⟨σ7, H7, I7.unpinned, q7⟩
    | ret v => obtain ⟨x7, σ7, H7, I7, r7, q7⟩ := q7; exact ⟨x7, σ7, H7, I7.unpinned, r7, q7⟩
end

/-! ### the forms one uses -/
/-- over a list that the body leaves as it is -/
theorem for_list {K : PySem.W.Frag} {a : Addr} {xs : List V} {g : TG} {tb : TS} {D : Ends} {σ : St} {H : Hp} (Pv : Nat → St → Hp → Prop) (h0 : Pv 0 σ H) (hl : ∀ i σ H, i ≤ xs.length → Pv i σ H → SqL K H a xs)
    (hs : ∀ i x σ H, xs[i]? = some x → Pv i σ H → g x σ H fun σ2 H2 => tb { D with nx := Pv (i + 1), ct := Pv (i + 1), bk := D.nx } σ2 H2) (hd : ∀ σ H, Pv xs.length σ H → D.nx σ H) :
    ∃ W : Nat → Nat → St → Hp → Prop, (∃ m, W 0 m σ H) ∧ ∀ i m σ H, W i m σ H →
      ((Itl K a).stop i H ∧ D.nx σ H) ∨ ((Itl K a).go i H ∧ ∃ N : St → Hp → Prop, (∀ σ' H', N σ' H' → ∃ m', m' < m ∧ W (i + 1) m' σ' H') ∧ ∀ x H', (Itl K a).yld i H x H' → g x σ H' fun σ2 H2 => tb { D with nx := N, ct := N, bk := D.nx } σ2 H2) := by
  refine ⟨fun i m σ H => m = xs.length - i ∧ i ≤ xs.length ∧ Pv i σ H, ⟨xs.length, by simp, Nat.zero_le _, h0⟩, ?_⟩
  rintro i m σ H ⟨rfl, hi, p⟩
  have q := hl i σ H hi p
  by_cases hlt : i < xs.length
  · refine .inr ⟨⟨xs, xs[i], q, by simp [hlt]⟩, Pv (i + 1), fun σ' H' p' => ⟨xs.length - (i + 1), by omega, rfl, hlt, p'⟩, fun x H' y => ?_⟩
    obtain ⟨e, y⟩ := y
    subst e
    exact hs i x σ _ (y xs q) p
  · have e : i = xs.length := by omega
    subst e
    exact .inl ⟨⟨xs, q, Nat.le_refl _⟩, hd σ H p⟩
theorem for_range {lo : Int} {n : Nat} {g : TG} {tb : TS} {D : Ends} {σ : St} {H : Hp} (Pv : Nat → St → Hp → Prop) (h0 : Pv 0 σ H)
    (hs : ∀ i σ H, i < n → Pv i σ H → g (.int (lo + i)) σ H fun σ2 H2 => tb { D with nx := Pv (i + 1), ct := Pv (i + 1), bk := D.nx } σ2 H2) (hd : ∀ σ H, Pv n σ H → D.nx σ H) :
    ∃ W : Nat → Nat → St → Hp → Prop, (∃ m, W 0 m σ H) ∧ ∀ i m σ H, W i m σ H →
      ((Itr lo n).stop i H ∧ D.nx σ H) ∨ ((Itr lo n).go i H ∧ ∃ N : St → Hp → Prop, (∀ σ' H', N σ' H' → ∃ m', m' < m ∧ W (i + 1) m' σ' H') ∧ ∀ x H', (Itr lo n).yld i H x H' → g x σ H' fun σ2 H2 => tb { D with nx := N, ct := N, bk := D.nx } σ2 H2) := by
  refine ⟨fun i m σ H => m = n - i ∧ i ≤ n ∧ Pv i σ H, ⟨n, by simp, Nat.zero_le _, h0⟩, ?_⟩
  rintro i m σ H ⟨rfl, hi, p⟩
  by_cases hlt : i < n
  · refine .inr ⟨hlt, Pv (i + 1), fun σ' H' p' => ⟨n - (i + 1), by omega, rfl, hlt, p'⟩, fun x H' y => ?_⟩
    obtain ⟨e, y⟩ := y
    subst e y
    exact hs i σ _ hlt p
  · have e : i = n := by omega
    subst e
    exact .inl ⟨Nat.le_refl _, hd σ H p⟩
end L2

namespace L2
open PySem PySem.Spec PyProof.Rows

abbrev R2 := V → V → Hp → VK → Prop
/-- a two-place operation on values: f is binaryOp op, inplaceOp op or compareOp op -/
def OpR (X : Cx) (f : Value → Value → Sem Value) (r : R2) : Prop :=
  ∀ (pins : List (Addr × Obj)) (s : Shared) (σ : St) (H : Hp) (x y : V) (v u : Value) (Q : VK), Inv X pins σ H s → RelV x v → RelV y u → r x y H Q →
    wpAny (model X.prog X.w) X.A (f v u) (EP X pins σ Q) X.xe s
/-- a one-place operation -/
def UnR (X : Cx) (f : Value → Sem Value) (r : V → Hp → VK → Prop) : Prop :=
  ∀ (pins : List (Addr × Obj)) (s : Shared) (σ : St) (H : Hp) (x : V) (v : Value) (Q : VK), Inv X pins σ H s → RelV x v → r x H Q →
    wpAny (model X.prog X.w) X.A (f v) (EP X pins σ Q) X.xe s
/-- a call of a value that is known (a builtin, a type) with values -/
def CallR (X : Cx) (f : Value) (r : List V → Hp → VK → Prop) : Prop :=
  ∀ (pins : List (Addr × Obj)) (s : Shared) (σ : St) (H : Hp) (xs : List V) (us : List Value) (Q : VK), Inv X pins σ H s → Vals xs us → r xs H Q →
    wpAny (model X.prog X.w) X.A (call f us) (EP X pins σ Q) X.xe s
/-- a value's truth -/
def TruR (X : Cx) (r : V → Hp → (Bool → Hp → Prop) → Prop) : Prop :=
  ∀ (pins : List (Addr × Obj)) (s : Shared) (σ : St) (H : Hp) (x : V) (v : Value) (Q : Bool → Hp → Prop), Inv X pins σ H s → RelV x v → r x H Q →
    wpAny (model X.prog X.w) X.A (truthy v) (TP X pins σ Q) X.xe s

def tOp (r : R2) (ta tb : TE) : TE := fun σ H Q => ta σ H fun x H1 => tb σ H1 fun y H2 => r x y H2 Q
def tUn (r : V → Hp → VK → Prop) (ta : TE) : TE := fun σ H Q => ta σ H fun x H1 => r x H1 Q
/-- ints in, under C, and a value out -/
def rI (C : Int → Int → Prop) (g : Int → Int → V) : R2 := fun x y H Q => ∃ i j, x = .int i ∧ y = .int j ∧ C i j ∧ Q (g i j) H
def rI0 (g : Int → Int → V) : R2 := fun x y H Q => ∃ i j, x = .int i ∧ y = .int j ∧ Q (g i j) H
def rU (g : Int → V) : V → Hp → VK → Prop := fun x H Q => ∃ i, x = .int i ∧ Q (g i) H

section
variable {X : Cx} {a b c : Expr} {ta tb tc : TE} {pos : Pos}

theorem binT (ha : PE X a ta) (hb : PE X b tb) {pins : List (Addr × Obj)} {s : Shared} {σ : St} {H : Hp} {R : V → V → Hp → Prop} (I : Inv X pins σ H s)
    (h : ta σ H fun x H1 => tb σ H1 fun y H2 => R x y H2) {Q : Value → Shared → Prop} {f : Value → Value → Sem Value}
    (hf : ∀ v u s2 x y H2, Inv X pins σ H2 s2 → RelV x v → RelV y u → R x y H2 → wpAny (model X.prog X.w) X.A (f v u) Q X.xe s2) :
    wpAny (model X.prog X.w) X.A (eval a X.env) (fun v s₁ => wpAny (model X.prog X.w) X.A (eval b X.env) (fun u s₂ => wpAny (model X.prog X.w) X.A (f v u) Q X.xe s₂) X.xe s₁) X.xe s := by
  refine thn (ha pins s σ H _ I h) fun v s1 ⟨x, H1, I1, r1, q1⟩ => ?_
  refine thn (hb pins s1 σ H1 _ I1 q1) fun u s2 ⟨y, H2, I2, r2, q2⟩ => ?_
  exact hf v u s2 x y H2 I2 r1 r2 q2

theorem pe_op {op : Operator} {r : R2} (ho : OpR X (binaryOp op) r) (ha : PE X a ta) (hb : PE X b tb) : PE X (.BinOp a op b pos) (tOp r ta tb) := by
  intro pins s σ H Q I h
  exact wpAny_BinOp (binT ha hb I h fun v u s2 x y H2 I2 rx ry q => ho pins s2 σ H2 x y v u Q I2 rx ry q)
theorem pe_un {op : UnaryOp} {r : V → Hp → VK → Prop} (ho : UnR X (unaryOp op) r) (ha : PE X a ta) : PE X (.UnaryOp op a pos) (tUn r ta) := by
  intro pins s σ H Q I h
  exact UnaryOp_ (thn (ha pins s σ H _ I h) fun v s1 ⟨x, H1, I1, r1, q1⟩ => ho pins s1 σ H1 x v Q I1 r1 q1)
/-! ### ints -/
theorem opI {f : Value → Value → Sem Value} {C : Int → Int → Prop} {g : Int → Int → Int}
    (rule : ∀ (i j : Int) (t u : Tok) (s : Shared) (Q : Value → Shared → Prop) (E : Value → Shared → Prop), C i j → Q (.int (g i j) s.toks) { s with toks := s.toks + 1 } → wpAny (model X.prog X.w) X.A (f (.int i t) (.int j u)) Q E s) :
    OpR X f (rI C fun i j => .int (g i j)) := by
  intro pins s σ H x y v u Q I rx ry h
  obtain ⟨i, j, rfl, rfl, hc, q⟩ := h
  obtain ⟨t, rfl⟩ := rx
  obtain ⟨t', rfl⟩ := ry
  exact rule i j t t' s _ _ hc ⟨.int (g i j), H, I.tok _, ⟨_, rfl⟩, q⟩
theorem opI0 {f : Value → Value → Sem Value} {g : Int → Int → Int}
    (rule : ∀ (i j : Int) (t u : Tok) (s : Shared) (Q : Value → Shared → Prop) (E : Value → Shared → Prop), Q (.int (g i j) s.toks) { s with toks := s.toks + 1 } → wpAny (model X.prog X.w) X.A (f (.int i t) (.int j u)) Q E s) :
    OpR X f (rI0 fun i j => .int (g i j)) := by
  intro pins s σ H x y v u Q I rx ry h
  obtain ⟨i, j, rfl, rfl, q⟩ := h
  obtain ⟨t, rfl⟩ := rx
  obtain ⟨t', rfl⟩ := ry
  exact rule i j t t' s _ _ ⟨.int (g i j), H, I.tok _, ⟨_, rfl⟩, q⟩
theorem opB0 {f : Value → Value → Sem Value} {g : Int → Int → Bool}
    (rule : ∀ (i j : Int) (t u : Tok) (s : Shared) (Q : Value → Shared → Prop) (E : Value → Shared → Prop), Q (.bool (g i j)) s → wpAny (model X.prog X.w) X.A (f (.int i t) (.int j u)) Q E s) :
    OpR X f (rI0 fun i j => .bl (g i j)) := by
  intro pins s σ H x y v u Q I rx ry h
  obtain ⟨i, j, rfl, rfl, q⟩ := h
  obtain ⟨t, rfl⟩ := rx
  obtain ⟨t', rfl⟩ := ry
  exact rule i j t t' s _ _ ⟨.bl (g i j), H, I, rfl, q⟩

def CDiv (i j : Int) : Prop := 0 < j ∧ j < 1073741824
def CPow (i j : Int) : Prop := 0 ≤ j ∧ j ≤ 1000000 ∧ i.natAbs < 2 ^ 64
def CMul (i j : Int) : Prop := (-(2 ^ 64) < i ∧ i < 2 ^ 64) ∨ (-(2 ^ 64) < j ∧ j < 2 ^ 64)
theorem CMul.ok {i j : Int} (h : CMul i j) : IntMulOk i j := by
  rcases h with ⟨h1, h2⟩ | ⟨h1, h2⟩
  · exact .of_left (intBits_le_64 h1 h2)
  · exact .of_right (intBits_le_64 h1 h2)
theorem op_add : OpR X (binaryOp .Add) (rI0 fun i j => .int (i + j)) := opI0 fun _ _ _ _ _ _ _ q => add_int q
theorem op_sub : OpR X (binaryOp .Sub) (rI0 fun i j => .int (i - j)) := opI0 fun _ _ _ _ _ _ _ q => sub_int q
theorem op_mul : OpR X (binaryOp .Mult) (rI CMul fun i j => .int (i * j)) := opI fun _ _ _ _ _ _ _ hc q => mul_int q hc.ok
/-- // by a positive divisor -/
theorem op_fdiv : OpR X (binaryOp .FloorDiv) (rI CDiv fun i j => .int (i / j)) := opI fun i j _ _ _ _ _ hc q => by
  have h1 : (0 : Int) < j := hc.1
  have h2 : j < 1073741824 := hc.2
  exact floordiv_int (by omega) (by rw [Int.fdiv_eq_ediv_of_nonneg i (by omega)]; exact q) (.inl (PyProof.noPylong_small (by omega)))
/-- % by a positive divisor of any size -/
theorem op_mod : OpR X (binaryOp .Mod) (rI (fun _ j => 0 < j) fun i j => .int (i % j)) := opI fun i j _ _ _ _ _ hc q => by
  have h1 : (0 : Int) < j := hc
  exact mod_int' (by omega) (by rw [Int.fmod_eq_emod_of_nonneg i (by omega)]; exact q)
theorem op_pow : OpR X (binaryOp .Pow) (rI CPow fun i j => .int (i ^ j.toNat)) := opI fun _ _ _ _ _ _ _ hc q => pow_int_small hc.1 hc.2.1 hc.2.2 q
theorem unI {f : Value → Sem Value} {g : Int → Int}
    (rule : ∀ (i : Int) (t : Tok) (s : Shared) (Q : Value → Shared → Prop) (E : Value → Shared → Prop), Q (.int (g i) s.toks) { s with toks := s.toks + 1 } → wpAny (model X.prog X.w) X.A (f (.int i t)) Q E s) :
    UnR X f (rU fun i => .int (g i)) := by
  intro pins s σ H x v Q I rx h
  obtain ⟨i, rfl, q⟩ := h
  obtain ⟨t, rfl⟩ := rx
  exact rule i t s _ _ ⟨.int (g i), H, I.tok _, ⟨_, rfl⟩, q⟩
theorem un_neg : UnR X (unaryOp .USub) (rU fun i => .int (-i)) := unI fun _ _ _ _ _ q => neg_int q
/-! ### bools among ints: n += (a < b) -/
end

/-! ### comparisons -/
/-- the scalars that == tells apart as data does -/
def scal : V → V → Bool
  | .non, .non => true | .non, .int _ => true | .int _, .non => true | .non, .bl _ => true | .bl _, .non => true | .non, .str _ => true | .str _, .non => true
  | .int _, .int _ => true | .bl _, .bl _ => true | .str _, .str _ => true | .byt _, .byt _ => true
  | .int _, .str _ => true | .str _, .int _ => true | .bl _, .str _ => true | .str _, .bl _ => true
  | _, _ => false
def rEq : R2 := fun x y H Q => scal x y = true ∧ Q (.bl (decide (x = y))) H
def rNe : R2 := fun x y H Q => scal x y = true ∧ Q (.bl (!decide (x = y))) H

theorem dec_int {i j : Int} : decide (V.int i = V.int j) = (i == j) := by
  rw [Bool.eq_iff_iff]
  simp
theorem dec_bl {i j : Bool} : decide (V.bl i = V.bl j) = (i == j) := by
  rw [Bool.eq_iff_iff]
  simp
theorem dec_str {i j : Str} : decide (V.str i = V.str j) = (i == j) := by
  rw [Bool.eq_iff_iff]
  simp
theorem dec_byt {i j : Array UInt8} : decide (V.byt i = V.byt j) = (i.toList == j.toList) := by
  rw [Bool.eq_iff_iff]
  cases i
  cases j
  simp

section
variable {X : Cx} {a b c : Expr} {ta tb tc : TE} {pos : Pos}
theorem fin_bl {pins : List (Addr × Obj)} {σ : St} {H : Hp} {s : Shared} {Q : VK} {k k' : Bool} (I : Inv X pins σ H s) (q : Q (.bl k) H) (e : k = k') : EP X pins σ Q (.bool k') s := by
  subst e
  exact ⟨.bl k, H, I, rfl, q⟩
theorem op_eq : OpR X (compareOp .Eq) rEq := by
  intro pins s σ H x y v u Q I rx ry h
  obtain ⟨hs, q⟩ := h
  cases x with
  | non =>
    cases rx
    cases y with
    | non => cases ry; exact PySem.EqNone.eq_none_none (fin_bl I q (by simp))
    | bl j => cases ry; exact PySem.EqNone.eq_none_bool (fin_bl I q (by simp))
    | int j => obtain ⟨t', rfl⟩ := ry; exact PySem.EqNone.eq_none_int (fin_bl I q (by simp))
    | str j => obtain ⟨t', rfl⟩ := ry; exact PySem.EqNone.eq_none_str (fin_bl I q (by simp))
    | _ => exact absurd (show false = true from hs) Bool.false_ne_true
  | bl i =>
    cases rx
    cases y with
    | non => cases ry; exact PySem.EqNone.eq_bool_none (fin_bl I q (by simp))
    | bl j => cases ry; exact eq_bool (fin_bl I q dec_bl)
    | str j => obtain ⟨t', rfl⟩ := ry; exact PySem.EqMixed.eq_bool_str (fin_bl I q (by simp))
    | _ => exact absurd (show false = true from hs) Bool.false_ne_true
  | int i =>
    obtain ⟨t, rfl⟩ := rx
    cases y with
    | non => cases ry; exact PySem.EqNone.eq_int_none (fin_bl I q (by simp))
    | int j => obtain ⟨t', rfl⟩ := ry; exact eq_int (fin_bl I q dec_int)
    | str j => obtain ⟨t', rfl⟩ := ry; exact PySem.EqMixed.eq_int_str (fin_bl I q (by simp))
    | _ => exact absurd (show false = true from hs) Bool.false_ne_true
  | str i =>
    obtain ⟨t, rfl⟩ := rx
    cases y with
    | non => cases ry; exact PySem.EqNone.eq_str_none (fin_bl I q (by simp))
    | bl j => cases ry; exact PySem.EqMixed.eq_str_bool (fin_bl I q (by simp))
    | int j => obtain ⟨t', rfl⟩ := ry; exact PySem.EqMixed.eq_str_int (fin_bl I q (by simp))
    | str j => obtain ⟨t', rfl⟩ := ry; exact eq_str (fin_bl I q dec_str)
    | _ => exact absurd (show false = true from hs) Bool.false_ne_true
  | byt i =>
    obtain ⟨t, rfl⟩ := rx
    cases y with
    | byt j => obtain ⟨t', rfl⟩ := ry; exact PySem.W.eq_bytes (fin_bl I q dec_byt)
    | _ => exact absurd (show false = true from hs) Bool.false_ne_true
  | _ => cases y <;> exact absurd (show false = true from hs) Bool.false_ne_true
theorem op_ne : OpR X (compareOp .NotEq) rNe := by
  intro pins s σ H x y v u Q I rx ry h
  obtain ⟨hs, q⟩ := h
  cases x with
  | non =>
    cases rx
    cases y with
    | non => cases ry; exact PySem.EqNone.ne_none_none (fin_bl I q (by simp))
    | bl j => cases ry; exact PySem.EqNone.ne_none_bool (fin_bl I q (by simp))
    | int j => obtain ⟨t', rfl⟩ := ry; exact PySem.EqNone.ne_none_int (fin_bl I q (by simp))
    | str j => obtain ⟨t', rfl⟩ := ry; exact PySem.EqNone.ne_none_str (fin_bl I q (by simp))
    | _ => exact absurd (show false = true from hs) Bool.false_ne_true
  | bl i =>
    cases rx
    cases y with
    | non => cases ry; exact PySem.EqNone.ne_bool_none (fin_bl I q (by simp))
    | bl j => cases ry; exact ne_bool (fin_bl I q (congrArg not dec_bl))
    | str j => obtain ⟨t', rfl⟩ := ry; exact PySem.EqMixed.ne_bool_str (fin_bl I q (by simp))
    | _ => exact absurd (show false = true from hs) Bool.false_ne_true
  | int i =>
    obtain ⟨t, rfl⟩ := rx
    cases y with
    | non => cases ry; exact PySem.EqNone.ne_int_none (fin_bl I q (by simp))
    | int j => obtain ⟨t', rfl⟩ := ry; exact ne_int (fin_bl I q (congrArg not dec_int))
    | str j => obtain ⟨t', rfl⟩ := ry; exact PySem.EqMixed.ne_int_str (fin_bl I q (by simp))
    | _ => exact absurd (show false = true from hs) Bool.false_ne_true
  | str i =>
    obtain ⟨t, rfl⟩ := rx
    cases y with
    | non => cases ry; exact PySem.EqNone.ne_str_none (fin_bl I q (by simp))
    | bl j => cases ry; exact PySem.EqMixed.ne_str_bool (fin_bl I q (by simp))
    | int j => obtain ⟨t', rfl⟩ := ry; exact PySem.EqMixed.ne_str_int (fin_bl I q (by simp))
    | str j => obtain ⟨t', rfl⟩ := ry; exact ne_str (fin_bl I q (congrArg not dec_str))
    | _ => exact absurd (show false = true from hs) Bool.false_ne_true
  | byt i =>
    obtain ⟨t, rfl⟩ := rx
    cases y with
    | byt j => obtain ⟨t', rfl⟩ := ry; exact PySem.W.ne_bytes (fin_bl I q (congrArg not dec_byt))
    | _ => exact absurd (show false = true from hs) Bool.false_ne_true
  | _ => cases y <;> exact absurd (show false = true from hs) Bool.false_ne_true

theorem op_lt : OpR X (compareOp .Lt) (rI0 fun i j => .bl (decide (i < j))) := opB0 fun _ _ _ _ _ _ _ q => lt_int q
theorem op_le : OpR X (compareOp .LtE) (rI0 fun i j => .bl (decide (i ≤ j))) := opB0 fun _ _ _ _ _ _ _ q => le_int q
theorem op_gt : OpR X (compareOp .Gt) (rI0 fun i j => .bl (decide (j < i))) := opB0 fun _ _ _ _ _ _ _ q => gt_int q
/-- is None, is not None: the right side a value none -/
theorem op_isN : OpR X (compareOp .Is) (fun x y H Q => y = .non ∧ Q (.bl (decide (x = .non))) H) := by
  intro pins s σ H x y v u Q I rx ry h
  obtain ⟨rfl, q⟩ := h
  cases ry
  refine is_none_gen (fin_bl I q ?_)
  cases x <;> first
    | (cases rx; rfl)
    | (obtain ⟨t, rfl⟩ := rx; rfl)
theorem op_notN : OpR X (compareOp .IsNot) (fun x y H Q => y = .non ∧ Q (.bl (!decide (x = .non))) H) := by
  intro pins s σ H x y v u Q I rx ry h
  obtain ⟨rfl, q⟩ := h
  cases ry
  refine isnot_none_gen (fin_bl I q ?_)
  cases x <;> first
    | (cases rx; rfl)
    | (obtain ⟨t, rfl⟩ := rx; rfl)

/-- is, is not of two objects that are tracked lists or instances -/
def isObj : HO → Bool
  | .lst _ => true
  | .ins _ _ _ => true
  | _ => false
theorem nomark (b : Expr) {op : CmpOp} (h : op ≠ .In := by decide) (h2 : op ≠ .NotIn := by decide) : behindInMarks op b = false := by
  have e1 : (op == CmpOp.In) = false := by cases op <;> first | rfl | exact absurd rfl h
  have e2 : (op == CmpOp.NotIn) = false := by cases op <;> first | rfl | exact absurd rfl h2
  cases b <;> simp [behindInMarks, e1, e2]
/-- a comparison as a value; hm: nomark b, or (for in, not in) by with_unfolding_all rfl -/
theorem pe_cmpR {op : CmpOp} {r : R2} (ho : OpR X (compareOp op) r) (ha : PE X a ta) (hb : PE X b tb) (hm : behindInMarks op b = false) : PE X (.Compare a [op] [b] pos) (tOp r ta tb) := by
  intro pins s σ H Q I h
  exact wpAny_Compare1 (binT ha hb I h fun v u s2 x y H2 I2 rx ry q => ho pins s2 σ H2 x y v u Q I2 rx ry q) hm
/-- a reading of a value as a test -/
def tTest (t : TE) : TT := fun σ H Q => t σ H fun x H' => ∃ k, x = .bl k ∧ Q k H'
theorem pt_cmpR {op : CmpOp} {r : R2} (ho : OpR X (compareOp op) r) (ha : PE X a ta) (hb : PE X b tb) (hm : behindInMarks op b = false) : PT X (.Compare a [op] [b] pos) (tTest (tOp r ta tb)) := by
  intro pins s σ H Q I h
  refine wpAny_isTrue_Compare1 (thn (ha pins s σ H _ I h) fun v s1 ⟨x, H1, I1, r1, q1⟩ => thn (hb pins s1 σ H1 _ I1 q1) fun u s2 ⟨y, H2, I2, r2, q2⟩ =>
    thn (ho pins s2 σ H2 x y v u _ I2 r1 r2 q2) fun c s3 ⟨z, H3, I3, r3, k, e, q3⟩ => ?_) hm
  subst e
  cases r3
  exact wpAny_truthy_bool ⟨H3, I3, q3⟩
/-- a op1 b op2 c -/
def tChain (r r' : R2) (ta tb tc : TE) : TE := fun σ H Q => ta σ H fun x H1 => tb σ H1 fun y H2 => r x y H2 fun z H3 => ∃ k, z = .bl k ∧
  (if k = true then tc σ H3 fun w' H4 => r' y w' H4 Q else Q (.bl false) H3)
theorem pe_chain {op op' : CmpOp} {r r' : R2} (ho : OpR X (compareOp op) r) (ho' : OpR X (compareOp op') r') (ha : PE X a ta) (hb : PE X b tb) (hc : PE X c tc)
    (hm : lastMarks [op, op'] [b, c] = false := by with_unfolding_all rfl) : PE X (.Compare a [op, op'] [b, c] pos) (tChain r r' ta tb tc) := by
  intro pins s σ H Q I h
  refine Compare_chain (thn (ha pins s σ H _ I h) fun v s1 ⟨x, H1, I1, r1, q1⟩ => chain_link (thn (hb pins s1 σ H1 _ I1 q1) fun u s2 ⟨y, H2, I2, r2, q2⟩ =>
    thn (ho pins s2 σ H2 x y v u _ I2 r1 r2 q2) fun d s3 ⟨z, H3, I3, r3, k, e, q3⟩ => ?_)) hm
  subst e
  cases r3
  refine wpAny_truthy_bool ?_
  cases k with
  | false => exact ite_ff ⟨.bl false, H3, I3, rfl, q3⟩
  | true => exact ite_tt (chain_last (thn (hc pins s3 σ H3 _ I3 q3) fun w' s4 ⟨z', H4, I4, r4, q4⟩ => ho' pins s4 σ H4 y z' u w' Q I4 r2 r4 q4))
/-! ### truth -/
/-- a value's truth by the abstract heap -/
def TruV (K : PySem.W.Frag) (x : V) (H : Hp) (k : Bool) : Prop :=
  match x with
  | .non => k = false
  | .bl b => k = b
  | .int i => k = (i != 0)
  | .str y => y.length ≤ sizeLine ∧ k = ((y.length : Int) != 0)
  | .byt y => y.size ≤ sizeLine ∧ k = ((y.size : Int) != 0)
  | .ref p => (∃ xs, SqL K H p xs ∧ k = !xs.isEmpty) ∨ (∃ xs, SqT K H p xs ∧ k = !xs.isEmpty) ∨ ∃ kvs, H p = some (.dK kvs) ∧ k = !kvs.isEmpty
  | _ => False
theorem isEmpty_kv {κ : Type} {kvs : List (κ × V)} {vs : List (κ × Value)} (r : KV kvs vs) : (!vs.isEmpty) = !kvs.isEmpty := by
  cases r <;> rfl
theorem isEmpty_of {xs : List V} {its : List Value} (r : Vals xs its) : (!its.toArray.isEmpty) = !xs.isEmpty := by
  cases r <;> simp
theorem line63 : (sizeLine : Nat) < 2 ^ 63 := by rw [sizeLine_eq]; decide
theorem tru_ok : TruR X (fun x H Q => ∃ k, TruV X.K x H k ∧ Q k H) := by
  intro pins s σ H x v Q I rx h
  obtain ⟨k, e, q⟩ := h
  have hl := line63
  have hs : sizeLine = 16777216 := sizeLine_eq
  cases x with
  | non =>
    cases rx
    have e' : k = false := e
    subst e'
    exact truthy_none ⟨H, I, q⟩
  | bl b =>
    cases rx
    have e' : k = b := e
    subst e'
    exact wpAny_truthy_bool ⟨H, I, q⟩
  | int i =>
    obtain ⟨t, rfl⟩ := rx
    have e' : k = (i != 0) := e
    subst e'
    exact PySem.P.truthy_int ⟨H, I, q⟩
  | str y =>
    obtain ⟨t, rfl⟩ := rx
    obtain ⟨hy, e'⟩ : y.length ≤ sizeLine ∧ k = ((y.length : Int) != 0) := e
    subst e'
    exact PySem.P.truthy_str (by omega) ⟨H, I.tok _, q⟩
  | byt y =>
    obtain ⟨t, rfl⟩ := rx
    obtain ⟨hy, e'⟩ : y.size ≤ sizeLine ∧ k = ((y.size : Int) != 0) := e
    subst e'
    exact PySem.W.truthy_bytes (by omega) ⟨H, I.tok _, q⟩
  | ref p =>
    cases rx
    have e' : (∃ xs, SqL X.K H p xs ∧ k = !xs.isEmpty) ∨ (∃ xs, SqT X.K H p xs ∧ k = !xs.isEmpty) ∨ ∃ kvs, H p = some (.dK kvs) ∧ k = !kvs.isEmpty := e
    rcases e' with ⟨xs, hx, e'⟩ | ⟨xs, hx, e'⟩ | ⟨kvs, hx, e'⟩
    · subst e'
      obtain ⟨its, r, pl, hz⟩ := I.list hx
      have hlen := r.length
      exact wpAny_truthy_list pl.isList (by simp only [List.size_toArray]; omega) ⟨H, I.tok _, by rw [isEmpty_of r]; exact q⟩
    · subst e'
      obtain ⟨its, r, pl, hz⟩ := I.tuple hx
      have hlen := r.length
      exact truthy_tuple pl (by simp only [List.size_toArray]; omega) ⟨H, I.tok _, by rw [isEmpty_of r]; exact q⟩
    · subst e'
      obtain ⟨hz, hS, vs, r, m⟩ : kvs.length ≤ sizeLine ∧ (p == sysModules) = false ∧ ∃ vs, KV kvs vs ∧ s.heap.DictOf (mixKind X.prog X.w) p vs := I.hok p _ hx
      have hlen : kvs.length = vs.length := Paired.length r
      exact wpAny_truthy_dict hS m (by omega) ⟨H, I.tok _, by rw [isEmpty_kv r]; exact q⟩
  | _ => exact (show False from e).elim
/-- any expression whose test is its value's truth (a name, a call, a subscript, a field ..: he by fun _ => rfl) -/
theorem pt_truth (ha : PE X a ta) (he : ∀ whole, isTrue a X.env whole = (do let v ← whole; standAt a.pos; holding [v] (truthy v))) :
    PT X a (fun σ H Q => ta σ H fun x H' => ∃ k, TruV X.K x H' k ∧ Q k H') := by
  intro pins s σ H Q I h
  exact isTrue_plain (thn (ha pins s σ H _ I h) fun v s1 ⟨x, H1, I1, r1, q1⟩ => tru_ok pins s1 σ H1 x v Q I1 r1 q1) (he _)

/-! ### strs and bytes -/
/-! ### scalar builtins, by CallR -/
theorem vals1 {x : V} {us : List Value} (r : Vals [x] us) : ∃ u, us = [u] ∧ RelV x u := by
  cases r with
  | cons r1 r2 => cases r2; exact ⟨_, rfl, r1⟩
theorem vals2 {x y : V} {us : List Value} (r : Vals [x, y] us) : ∃ u w', us = [u, w'] ∧ RelV x u ∧ RelV y w' := by
  cases r with
  | cons r1 r2 =>
    cases r2 with
    | cons r3 r4 => cases r4; exact ⟨_, _, rfl, r1, r3⟩
theorem call_max2 (hc : X.calm = true) : CallR X (.builtin "max") (fun xs H Q => ∃ i j, xs = [.int i, .int j] ∧ Q (.int (if j > i then j else i)) H) := by
  intro pins s σ H xs us Q I r h
  obtain ⟨i, j, rfl, q⟩ := h
  obtain ⟨u, w', rfl, ⟨t, rfl⟩, ⟨t', rfl⟩⟩ := vals2 r
  refine max_two_ints (I.ok.hd hc) fun h' tk k => ⟨_, H, I.kept k, ?_, q⟩
  by_cases hj : j > i
  · rw [if_pos hj, if_pos hj]; exact ⟨_, rfl⟩
  · rw [if_neg hj, if_neg hj]; exact ⟨_, rfl⟩
theorem call_min2 (hc : X.calm = true) : CallR X (.builtin "min") (fun xs H Q => ∃ i j, xs = [.int i, .int j] ∧ Q (.int (if j < i then j else i)) H) := by
  intro pins s σ H xs us Q I r h
  obtain ⟨i, j, rfl, q⟩ := h
  obtain ⟨u, w', rfl, ⟨t, rfl⟩, ⟨t', rfl⟩⟩ := vals2 r
  refine min_two_ints (I.ok.hd hc) fun h' tk k => ⟨_, H, I.kept k, ?_, q⟩
  by_cases hj : j < i
  · rw [if_pos hj, if_pos hj]; exact ⟨_, rfl⟩
  · rw [if_neg hj, if_neg hj]; exact ⟨_, rfl⟩
theorem call_int1 : CallR X (.type "int") (fun xs H Q => (∃ i, xs = [.int i] ∧ Q (.int i) H) ∨ ∃ k, xs = [.bl k] ∧ Q (.int (if k then 1 else 0)) H) := by
  intro pins s σ H xs us Q I r h
  rcases h with ⟨i, rfl, q⟩ | ⟨k, rfl, q⟩
  · obtain ⟨u, rfl, t, rfl⟩ := vals1 r
    exact call_int_int ⟨.int i, H, I, ⟨_, rfl⟩, q⟩
  · obtain ⟨u, rfl, r1⟩ := vals1 r
    cases r1
    exact call_int_bool ⟨.int (if k then 1 else 0), H, I.tok _, ⟨_, rfl⟩, q⟩
end
end L2

namespace L2
open PySem PySem.Spec PyProof.Rows

/-! ### an instance, its attributes a map -/
structure ObjM (h : Heap) (x dx C : Addr) (mA : Str → Option Value) : Prop where
  obj : h.get? x = some (PySem.W.instObj C dx)
  ns : h.Ns1 dx mA
  ne : dx ≠ x

theorem lookIn_ns {h : Heap} {dx : Addr} {mA : Str → Option Value} (n : h.Ns1 dx mA) : ∃ od, h.get? dx = some od ∧ ∀ name, PySem.W.lookIn name od = some (mA name) := by
  obtain ⟨o, es, ep, ho, hd, hk, _, hm⟩ := n
  refine ⟨o, ho, fun name => ?_⟩
  have e := hm name
  unfold nsFind findBy at e
  rw [← Array.find?_toList] at e
  unfold PySem.W.lookIn
  rw [hd]
  dsimp only
  split
  · rename_i y q
    rw [q] at e
    exact congrArg some e
  · rename_i q
    rw [q] at e
    have a : es.toList.any (·.refKey) = false := by
      rw [List.any_eq_false]
      intro y hy
      obtain ⟨z, t, hkey⟩ := hk y (Array.mem_toList_iff.mp hy)
      simp [DictEntry.refKey, hkey]
    have a' : ¬ es.toList.any (·.refKey) = true := by rw [a]; exact Bool.false_ne_true
    rw [if_neg a']
    exact congrArg some e

theorem ObjM.look {h : Heap} {x dx C : Addr} {mA : Str → Option Value} (I : ObjM h x dx C mA) : ∃ od, PySem.W.InstAt h x (PySem.W.instObj C dx) C (some od) ∧ ∀ name, PySem.W.lookIn name od = some (mA name) :=
  let ⟨od, ho, hl⟩ := lookIn_ns I.ns
  ⟨od, ⟨I.obj, rfl, rfl, ho⟩, hl⟩

section
variable {prog : Program} {w : World} {A : Around} {E : Value → Shared → Prop} {s : Shared} {K : PySem.W.Frag} {x dx C f : Addr} {mA : Str → Option Value} {name : Str} {v : Value}

end

/-! ### the attributes as a list of pairs -/
theorem RelO.some_of {v : V} {o : Option Value} (r : RelO (some v) o) : ∃ u, o = some u ∧ RelV v u := by
  cases o with
  | none => exact (show False from r).elim
  | some u => exact ⟨u, rfl, r⟩
section
variable {P : Program} {w : World} {H H' : Hp} {h h' : Heap} {a C dx : Addr} {fs fs' : List (Str × V)}
theorem ins_get (hok : HOk P w H h) (e : H a = some (.ins C dx fs)) : ∃ mA, ObjM h a dx C mA ∧ (∀ f, RelO (fs.lookup f) (mA f)) ∧ PySem.Within mA (fs.map (·.1)) ∧ fs.length ≤ 1000 ∧ H dx = some (.own a) := by
  obtain ⟨d, z, ne, ob, mA, n, r, q⟩ := (show ObjOk P w H h a (.ins C dx fs) from hok a _ e)
  exact ⟨mA, ⟨ob, n, ne⟩, r, q, z, d⟩
end

/-! ### what of the text a class must have -/
structure Cls (K : PySem.W.Frag) (C : Addr) : Prop where
  pg : PySem.W.plainGet K C Str.empty = true
  hd : PySem.W.hasDictIn K C = true
  po : PySem.W.plainOver K C = true
  sa : PySem.W.findIn K (.ref C) "__setattr__" = some (some (.builtin "object.__setattr__"))
theorem Cls.get {K : PySem.W.Frag} {C : Addr} (c : Cls K C) (f : Str) : PySem.W.plainGet K C f = true := c.pg
section
variable {X : Cx} {pins : List (Addr × Obj)} {σ : St} {H : Hp} {s : Shared} {a C dx : Addr} {fs : List (Str × V)} {f : Str} {v : V} {A : Around} {E : Value → Shared → Prop}

end

/-! ### readings and rules -/
section
variable {X : Cx} {o e value : Expr} {f : Str} {pos pos' tpos : Pos} {ta tv : TE}
end

/-! ### isinstance -/
section
variable {X : Cx} {pins : List (Addr × Obj)} {σ : St} {H : Hp} {s : Shared} {A : Around} {E : Value → Shared → Prop} {Q : Value → Shared → Prop} {c : Value} {b : Bool}
/-- the type of a value, as the fragment's deciders take it; for an instance its class -/
inductive TyOf (K : PySem.W.Frag) (H : Hp) : V → Value → Prop where
  | non : TyOf K H .non (.type "NoneType")
  | bl (x : Bool) : TyOf K H (.bl x) (.type "bool")
  | int (i : Int) : TyOf K H (.int i) (.type "int")
  | str (x : Str) : TyOf K H (.str x) (.type "str")
  | flt (x : UInt64) : TyOf K H (.flt x) (.type "float")
  | lst {a : Addr} {xs : List V} (e : H a = some (.lst xs)) : TyOf K H (.ref a) (.type "list")
  | frz {a : Addr} {o : Obj} {xs : List V} (e : H a = some (.frz o (.lst xs))) : TyOf K H (.ref a) (.type "list")
  | tup {a : Addr} {xs : List V} (e : H a = some (.tup xs)) : TyOf K H (.ref a) (.type "tuple")
  | dK {a : Addr} {kvs : List (Key × V)} (e : H a = some (.dK kvs)) : TyOf K H (.ref a) (.type "dict")
  | dT {a : Addr} {kvs : List (List Key × V)} (e : H a = some (.dT kvs)) : TyOf K H (.ref a) (.type "dict")
  | ins {a C dx : Addr} {fs : List (Str × V)} (e : H a = some (.ins C dx fs)) (cl : Cls K C) (ha : PySem.W.findIn K (.ref C) "__class__" = some (some (.builtin "object.__class__")))
      (hn : PySem.W.specialIn K (.builtin "object.__class__") "__get__" = some (some (.builtin "getset_descriptor.__get__"))) (htk : PySem.W.takesIn K (.builtin "object.__class__") = some true)
      (hm : PySem.W.mroIn K C (.type "object") = some true) : TyOf K H (.ref a) (.ref C)
/-- isinstance(x, c) for one class c, a built-in or an own one: kitOne's answer -/
theorem isinst_ok {x : V} {u t : Value} (I : Inv X pins σ H s) (rx : RelV x u) (ty : TyOf X.K H x t) (e : PySem.W.kitOne X.K t c = some b) (h : ∀ tk, Q (.bool b) { s with toks := tk }) :
    wpAny (model X.prog X.w) A (call (.builtin "isinstance") [u, c]) Q E s := by
  cases ty with
  | non => cases (show u = Value.none from rx); exact PySem.W.kia_one PySem.W.kitx_none I.kIn True.intro e (fun z => nomatch z) h
  | bl y => cases (show u = Value.bool y from rx); exact PySem.W.kia_one PySem.W.kitx_bool I.kIn True.intro e (fun z => nomatch z) h
  | int i => obtain ⟨t, q⟩ := (show ∃ t, u = Value.int i t from rx); cases q; exact PySem.W.kia_one PySem.W.kitx_int I.kIn True.intro e (fun z => nomatch z) h
  | str y => obtain ⟨t, q⟩ := (show ∃ t, u = Value.str y t from rx); cases q; exact PySem.W.kia_one PySem.W.kitx_str I.kIn True.intro e (fun z => nomatch z) h
  | flt y => obtain ⟨t, q⟩ := (show ∃ t, u = Value.float y t from rx); cases q; exact PySem.W.kia_one PySem.W.kitx_float I.kIn True.intro e (fun z => nomatch z) h
  | @lst a xs ea =>
    cases (show u = Value.ref a from rx)
    obtain ⟨_, _, n, _, h1⟩ := (show ObjOk X.prog X.w H s.heap a (.lst xs) from I.hok a _ ea)
    exact PySem.W.kia_one PySem.W.kitx_list I.kIn ⟨_, h1, rfl⟩ e (fun z => nomatch z) h
  | @frz a ob xs ea =>
    cases (show u = Value.ref a from rx)
    obtain ⟨_, _, _, n, _, h1⟩ := (show ObjOk X.prog X.w H s.heap a (.frz ob (.lst xs)) from I.hok a _ ea)
    exact PySem.W.kia_one PySem.W.kitx_list I.kIn ⟨_, h1, rfl⟩ e (fun z => nomatch z) h
  | @tup a xs ea =>
    cases (show u = Value.ref a from rx)
    obtain ⟨_, _, _, p⟩ := (show ObjOk X.prog X.w H s.heap a (.tup xs) from I.hok a _ ea)
    obtain ⟨o, h1, h2, _⟩ := p
    exact PySem.W.kia_one PySem.W.kitx_tuple I.kIn ⟨o, h1, h2⟩ e (fun z => nomatch z) h
  | @dK a kvs ea =>
    cases (show u = Value.ref a from rx)
    obtain ⟨_, _, vs, _, p⟩ := (show ObjOk X.prog X.w H s.heap a (.dK kvs) from I.hok a _ ea)
    obtain ⟨o, es, ep, h1, h2, _⟩ := p
    exact PySem.W.kia_one PySem.W.kitx_dict I.kIn ⟨o, h1, h2.1⟩ e (fun z => nomatch z) h
  | @dT a kvs ea =>
    cases (show u = Value.ref a from rx)
    obtain ⟨_, _, xs, _, o, es, ep, h1, h2, _⟩ := (show ObjOk X.prog X.w H s.heap a (.dT kvs) from I.hok a _ ea)
    exact PySem.W.kia_one PySem.W.kitx_dict I.kIn ⟨o, h1, h2.1⟩ e (fun z => nomatch z) h
  | @ins a C dx fs ea cl ha hn htk hm =>
    cases (show u = Value.ref a from rx)
    obtain ⟨mA, O, _⟩ := ins_get I.hok ea
    obtain ⟨od, J, _⟩ := O.look
    exact PySem.W.kia_one (PySem.W.kitx_own (cl.get _) cl.hd ha hn htk hm) I.kIn J e (fun z => nomatch z) h
end
end L2

namespace L2
open PySem PySem.Spec PyProof.Rows

/-! ### room -/
structure Room (k : Nat) (A : Around) : Prop where
  hd : A.handled = none
  dp : A.depth + 3 * k + 5 < recursionLimit
  un : A.units + 16 * k + 200 < cLine
theorem Room.mono {j k : Nat} {A : Around} (r : Room k A) (h : j ≤ k) : Room j A := ⟨r.hd, by have := r.dp; omega, by have := r.un; omega⟩
theorem Room.deeper {k : Nat} {A : Around} (r : Room (k + 1) A) (env : Env) : Room k (A.deeper env) :=
  ⟨r.hd, by have := r.dp; show A.depth + 1 + 3 * k + 5 < _; omega, by have := r.un; show A.units + 3 + 16 * k + 200 < _; omega⟩
theorem Room.depth {k : Nat} {A : Around} (r : Room k A) : A.depth < recursionLimit := by have := r.dp; omega
theorem Room.units {k : Nat} {A : Around} (r : Room k A) : A.units + 64 < cLine := by have := r.un; omega
/-! ### argument lists and displays -/
def tNil : TA := fun _ H Q => Q [] H
def tCons (ta : TE) (tr : TA) : TA := fun σ H Q => ta σ H fun x H1 => tr σ H1 fun xs H2 => Q (x :: xs) H2
section
variable {X : Cx} {e : Expr} {es : List Expr} {te : TE} {t : TA} {pos : Pos}
theorem pa_nil : PA X [] tNil := fun _ _ _ _ H Q I h => Calls.spliced_nil ⟨[], H, I, .nil, h⟩
theorem pa_cons (ha : PE X e te) (hr : PA X es t) (hs : starEach (e :: es) X.env = (false, eval e X.env) :: starEach es X.env := by rfl) : PA X (e :: es) (tCons te t) := by
  intro pos pins s σ H Q I h
  rw [hs]
  show wpAny _ _ (spliced ((false, eval e X.env) :: backTo pos (starEach es X.env))) _ _ s
  refine Calls.spliced_cons (thn (ha pins s σ H _ I h) fun u s1 ⟨x, H1, I1, r1, q1⟩ => ?_)
  exact thn (hr pos pins s1 σ H1 _ I1 q1) fun us s2 ⟨xs, H2, I2, r2, q2⟩ => ⟨x :: xs, H2, I2, .cons r1 r2, q2⟩

/-- a tuple, a list of written items -/
def tTup (t : TA) : TE := fun σ H Q => t σ H fun xs H1 => xs.length ≤ sizeLine ∧ ∀ p, H1 p = none → Q (.ref p) (upd H1 p (.tup xs))
def tLst (t : TA) : TE := fun σ H Q => t σ H fun xs H1 => xs.length ≤ sizeLine ∧ ∀ p, H1 p = none → Q (.ref p) (upd H1 p (.lst xs))
theorem pe_tup {x1} (h : PA X es t) : PE X (.Tuple es x1 pos) (tTup t) := by
  intro pins s σ H Q I hq
  refine wpAny_Tuple_spliced (thn (h pos pins s σ H _ I hq) fun us s1 ⟨xs, H1, I1, r, z, q⟩ => ⟨by rw [← r.length]; exact z, ?_⟩)
  have hf : H1 s1.heap.objs.size = none := I1.hok.fresh (Nat.le_refl _)
  refine ⟨.ref s1.heap.objs.size, upd H1 s1.heap.objs.size (.tup xs), I1.laid (t' := s1.toks) (fun b u e => Heap.get?_push_of_some _ e) (Nat.le_refl _) ?_, rfl, q _ hf⟩
  exact ⟨z, us, r, ⟨_, Heap.get?_push_size _ rfl, rfl, _, rfl⟩⟩
theorem pe_lst (h : PA X es t) : PE X (.List es pos) (tLst t) := by
  intro pins s σ H Q I hq
  refine wpAny_List_spliced (thn (h pos pins s σ H _ I hq) fun us s1 ⟨xs, H1, I1, r, z, q⟩ => ⟨by rw [← r.length]; exact z, ?_⟩)
  have hf : H1 s1.heap.objs.size = none := I1.hok.fresh (Nat.le_refl _)
  refine ⟨.ref s1.heap.objs.size, upd H1 s1.heap.objs.size (.lst xs), I1.laid (t' := s1.toks) (fun b u e => Heap.get?_push_of_some _ e) (Nat.le_refl _) ?_, rfl, q _ hf⟩
  exact ⟨z, us, 0, r, Heap.get?_push_size _ rfl⟩
end

/-! ### what a def promises -/
/-- a def's promise: the bound arguments in the parameters' order, the heap, the wanted end, the wanted exception -/
abbrev Sp := List V → Hp → VK → XK → Prop
/-- how an exception lies behind a call (file 08 gives it): the callers' frames, abstract heap and state ahead of the call, the wish, the exception, the state -/
abbrev CXT := List Env → Hp → Shared → XK → Value → Shared → Prop

/-- the state at a call -/
structure Env0 (P : Program) (w : World) (K : PySem.W.Frag) (mg : Str → Option Value) (base : Heap) (A : Around) (outer : List Env) (s : Shared) (H : Hp) : Prop where
  frames : A.frames = some outer
  mod : Mod K mg base
  bs : ∀ b o, base.get? b = some o → s.heap.get? b = some o ∧ H b = none
  bsz : base.objs.size ≤ s.heap.objs.size
  funs : s.heap.FunFrames base outer
  frf : ∀ b ∈ frs outer, H b = none
  hok : HOk P w H s.heap
  bare : AllBare s.gens
/-- a call's end -/
def CE (outer : List Env) (P : Program) (w : World) (H : Hp) (s : Shared) (Q : VK) (u : Value) (s' : Shared) : Prop :=
  ∃ v H', s'.os = s.os ∧ AllBare s'.gens ∧ Un (frs outer) [] H H' s.heap s'.heap ∧ HOk P w H' s'.heap ∧ RelV v u ∧ Q v H'
def CR (CX : CXT) (outer : List Env) (P : Program) (w : World) (H : Hp) (s : Shared) (Q : VK) (E : XK) (r : Result) (s' : Shared) : Prop :=
  match r with
  | .ok (.ret u) => CE outer P w H s Q u s'
  | .ok _ => False
  | .error e => CX outer H s E e s'
structure FnOk (P : Program) (w : World) (K : PySem.W.Frag) (mg : Str → Option Value) (base : Heap) (CX : CXT) (k : Nat) (f : Addr) (fd : FuncData) (ps : List Str) (sp : Sp) : Prop where
  len : ∀ vs H Q E, sp vs H Q E → vs.length = ps.length
  run : ∀ (A : Around) (outer : List Env) (s : Shared) (H : Hp) (args : Args) (us : List Value) (vs : List V) (Q : VK) (E : XK), Room k A → Env0 P w K mg base A outer s H → BindsTo s fd args (ps.zip us) → Vals vs us → sp vs H Q E →
    codeAny (model P w) A (.call (.ref f) args) (CR CX outer P w H s Q E) s
section
variable {X : Cx} {pins : List (Addr × Obj)} {σ : St} {H : Hp} {s s' : Shared}
/-- from a body: what a callee wants -/
theorem Inv.env0 (I : Inv X pins σ H s) : Env0 X.prog X.w X.K X.mg X.base X.A X.stack s H :=
  ⟨I.ok.frames, I.ok.mod, I.bs, Nat.le_trans I.ok.bsz I.sz, I.stack, I.stkFree, I.hok, I.bare⟩
/-- behind a call -/
theorem Inv.after {Q : VK} {u : Value} (I : Inv X pins σ H s) (h : CE X.stack X.prog X.w H s Q u s') : EP X pins σ Q u s' := by
  obtain ⟨v, H', os, bare, un, hok, r, q⟩ := h
  obtain ⟨hh, g, d, t, os'⟩ := s'
  obtain rfl : os' = s.os := os
  exact ⟨v, H', I.call (h' := hh) (g' := g) (d' := d) (t' := t) (ch := []) un hok bare (fun b z => absurd z (by simp)), r, q⟩
end

/-! ### calls -/
/-- f(..): the written arguments, then the defaults dvs; E: what is wanted of an exception -/
def tCall (sp : Sp) (dvs : List V) (E : XK) (t : TA) : TE := fun σ H Q => t σ H fun vs H1 => sp (vs ++ dvs) H1 Q E
/-- how the parameters are bound: us the positional arguments, kw the keywords' values by name, ds the defaults that fill up -/
def Binds (K : PySem.W.Frag) (fd : FuncData) (ps : List Str) (ds : List Value) : Prop :=
  ∀ (s : Shared) (us : List Value), K.In s.heap → (us ++ ds).length = ps.length → BindsTo s fd ⟨us, []⟩ (ps.zip (us ++ ds))
/-- every parameter is given -/
theorem Binds.all {K : PySem.W.Frag} {fd : FuncData} {ps : List Str} (h : ∀ us : List Value, us.length = ps.length → bindArgs fd ⟨us, []⟩ = pure (ps.zip us)) : Binds K fd ps [] := fun s us _ hl => by
  rw [List.append_nil] at hl ⊢
  exact .of_eq (h us hl)

/-- an exception of a callee reaches what this body wants of exceptions -/
def Passes (CX : CXT) (X : Cx) (E : XK) : Prop := ∀ (pins : List (Addr × Obj)) (σ : St) (H : Hp) (s : Shared) (e : Value) (s' : Shared), Inv X pins σ H s → CX X.stack H s E e s' → X.xe e s'

section
variable {X : Cx} {CX : CXT} {k : Nat} {f C : Addr} {fd : FuncData} {ps : List Str} {sp : Sp} {dvs : List V} {ds : List Value} {E : XK} {x m : Str} {p pos apos : Pos} {e o : Expr} {es : List Expr} {ta : TE} {t : TA}

/-- the callee runs -/
theorem run_fn {pins : List (Addr × Obj)} {σ : St} {H : Hp} {s : Shared} {Q : VK} {us : List Value} {vs : List V} (F : FnOk X.prog X.w X.K X.mg X.base CX k f fd ps sp) (hr : Room k X.A) (hb : Binds X.K fd ps ds) (hd : Vals dvs ds) (hx : Passes CX X E)
    (I : Inv X pins σ H s) (r : Vals vs us) (h : sp (vs ++ dvs) H Q E) : wpAny (model X.prog X.w) X.A (call (.ref f) us) (EP X pins σ Q) X.xe s := by
  have r2 : Vals (vs ++ dvs) (us ++ ds) := r.append hd
  have hl : (us ++ ds).length = ps.length := by rw [← r2.length]; exact F.len _ _ _ _ h
  refine wpAny_call (codeAny_mono (F.run X.A X.stack s H ⟨us, []⟩ (us ++ ds) (vs ++ dvs) Q E hr I.env0 (hb s us I.kIn hl) r2 h) fun r s' hq => ?_)
  cases r with
  | error e => exact hx pins σ H s e s' I hq
  | ok fl =>
    cases fl with
    | ret u => exact I.after hq
    | next => exact False.elim hq
    | brk => exact False.elim hq
    | cont => exact False.elim hq

theorem pe_call (F : FnOk X.prog X.w X.K X.mg X.base CX k f fd ps sp) (hr : Room k X.A) (hg : Gl X x) (hm : X.mg x = some (.ref f)) (hk : PySem.W.keepIn X.K (.ref f) = true) (hb : Binds X.K fd ps ds) (hd : Vals dvs ds) (hx : Passes CX X E)
    (ha : PA X (e :: es) t) (hdb : (x == ("__debug__" : Str)) = false := by decide) (he : starEach (e :: es) X.env = (false, eval e X.env) :: starEach es X.env := by rfl) (hpl : (backTo pos (starEach es X.env)).any (·.1) = false := by rfl) :
    PE X (.Call (.Name x p) (e :: es) [] pos) (tCall sp dvs E t) := by
  intro pins s σ H Q I h
  refine wpAny_Call_Name_kw (ld_glob I hg hm ?_ hdb)
  refine PySem.W.callWith_K (h₀ := X.base) I.ok.mod.kin hk (thn (ha pos pins s σ H _ I h) fun us s1 ⟨vs, H1, I1, r, q⟩ => ⟨I1.kIn, ?_⟩) he hpl
  exact run_fn F hr hb hd hx I1 r q
end

/-! ### keywords -/
/-- the values of the keywords, from the left -/
def PK (X : Cx) (kws : List Keyword) (t : TA) : Prop :=
  ∀ (pos : Pos) (pins : List (Addr × Obj)) (s : Shared) (σ : St) (H : Hp) (Q : List V → Hp → Prop), Inv X pins σ H s → t σ H Q → wpAny (model X.prog X.w) X.A (evalAll ((backToKw pos (keywordEach kws X.env)).map (·.2))) (AP X pins σ Q) X.xe s
section
variable {X : Cx} {CX : CXT} {k : Nat} {f C : Addr} {fd : FuncData} {ps ks : List Str} {sp : Sp} {E : XK} {x m : Str} {p pos apos kpos : Pos} {e o : Expr} {es : List Expr} {kws : List Keyword} {te ta : TE} {t tk : TA} {nm : Option Str}
theorem pk_nil : PK X [] tNil := fun _ _ _ _ H Q I h => wpAny_evalAll_nil ⟨[], H, I, .nil, h⟩
theorem pk_cons (ha : PE X e te) (hr : PK X kws t) : PK X (⟨nm, e, kpos⟩ :: kws) (tCons te t) := by
  intro pos pins s σ H Q I h
  show wpAny _ _ (evalAll ((do let v ← eval e X.env; standAt pos; pure v) :: (backToKw pos (keywordEach kws X.env)).map (·.2))) _ _ s
  refine wpAny_evalAll_cons (wpAny_bind (thn (ha pins s σ H _ I h) fun u s1 ⟨x, H1, I1, r1, q1⟩ => wpAny_bind (wpAny_standAt (wpAny_pure ?_))))
  exact thn (hr pos pins s1 σ H1 _ I1 q1) fun us s2 ⟨xs, H2, I2, r2, q2⟩ => ⟨x :: xs, H2, I2, .cons r1 r2, q2⟩

variable {g : List Value → List Value → List Value} {gV : List V → List V → List V}
end

/-! ### a def's body keeps its promise -/
/-- names: the parameters first -/
structure FnScope (N P : List Str) (sc : Scope) : Prop where
  kind : sc.kind = .function
  co : sc.isCoroutine = false
  gen : sc.isGenerator = false
  nd : N.Nodup
  pre : N.take P.length = P
  par : ∀ x ∈ P, sc.names.lookup x = some .local ∨ sc.names.lookup x = some .cell
  nofree : ∀ y ∈ sc.names, y.2 ≠ .free

theorem bindL_out {kindOf : Str → Option NameKind} {x : Str} : ∀ {binds : List (Str × Value)} {m : Str → Option Value}, (∀ v, (x, v) ∉ binds) → bindL kindOf binds m x = m x
  | [], _, _ => rfl
  | (n, v) :: r, m, h => by
    unfold bindL
    rw [bindL_out fun w hw => h w (List.mem_cons_of_mem _ hw)]
    split
    · have : x ≠ n := by rintro rfl; exact h v List.mem_cons_self
      simp [this]
    · rfl
theorem bindC_out {kindOf : Str → Option NameKind} {x : Str} : ∀ {binds : List (Str × Value)} {m : Str → Option Value}, (∀ v, (x, v) ∉ binds) → bindC kindOf binds m x = m x
  | [], _, _ => rfl
  | (n, v) :: r, m, h => by
    unfold bindC
    rw [bindC_out fun w hw => h w (List.mem_cons_of_mem _ hw)]
    split
    · rfl
    · have : x ≠ n := by rintro rfl; exact h v List.mem_cons_self
      simp [this]
theorem bindL_get {kindOf : Str → Option NameKind} {x : Str} {v : Value} : ∀ {P : List Str} {vs : List Value} {i : Nat} {m : Str → Option Value}, P.Nodup → P[i]? = some x → vs[i]? = some v → kindOf x = some .local →
    bindL kindOf (P.zip vs) m x = some v
  | [], _, _, _, _, h, _, _ => by simp at h
  | _ :: _, [], _, _, _, _, h, _ => by simp at h
  | p :: P, w :: vs, 0, m, nd, h1, h2, hk => by
    simp at h1 h2; subst h1; subst h2
    show bindL kindOf ((p, w) :: P.zip vs) m p = _
    unfold bindL
    rw [bindL_out fun v hv => (List.nodup_cons.mp nd).1 (List.of_mem_zip hv).1, if_pos hk]
    simp
  | p :: P, w :: vs, i + 1, m, nd, h1, h2, hk => by
    show bindL kindOf ((p, w) :: P.zip vs) m x = _
    unfold bindL
    exact bindL_get (i := i) (List.nodup_cons.mp nd).2 (by simpa using h1) (by simpa using h2) hk
theorem bindC_get {kindOf : Str → Option NameKind} {x : Str} {v : Value} : ∀ {P : List Str} {vs : List Value} {i : Nat} {m : Str → Option Value}, P.Nodup → P[i]? = some x → vs[i]? = some v → kindOf x ≠ some .local →
    bindC kindOf (P.zip vs) m x = some v
  | [], _, _, _, _, h, _, _ => by simp at h
  | _ :: _, [], _, _, _, _, h, _ => by simp at h
  | p :: P, w :: vs, 0, m, nd, h1, h2, hk => by
    simp at h1 h2; subst h1; subst h2
    show bindC kindOf ((p, w) :: P.zip vs) m p = _
    unfold bindC
    rw [bindC_out fun v hv => (List.nodup_cons.mp nd).1 (List.of_mem_zip hv).1, if_neg hk]
    simp
  | p :: P, w :: vs, i + 1, m, nd, h1, h2, hk => by
    show bindC kindOf ((p, w) :: P.zip vs) m x = _
    unfold bindC
    exact bindC_get (i := i) (List.nodup_cons.mp nd).2 (by simpa using h1) (by simpa using h2) hk

/-- the names' values at the entry -/
def start (N : List Str) (vs : List V) : St := vs.map some ++ List.replicate (N.length - vs.length) none

/-- the context of a def's body, at its entry; an exception leaves the frame, then lies as CX says -/
def cxOf (CX : CXT) (P : Program) (w : World) (K : PySem.W.Frag) (mg : Str → Option Value) (base : Heap) (N : List Str) (qual : Str) (scope : Scope) (f : Addr) (cd : Value) (A : Around) (outer : List Env) (s : Shared) (H : Hp) (E : XK) : Cx where
  prog := P
  w := w
  K := K
  mg := mg
  base := base
  A := A.deeper (envOfC qual scope s.heap.objs.size f cd)
  N := N
  s₀ := s
  H₀ := H
  env := envOfC qual scope s.heap.objs.size f cd
  outer := outer
  stack := envOfC qual scope s.heap.objs.size f cd :: outer
  ex := []
  calm := true
  fn := fun _ => true
  pn := []
  xe := fun e s' => wpAny (model P w) (A.deeper (envOfC qual scope s.heap.objs.size f cd)) (leaving (envOfC qual scope s.heap.objs.size f cd) e) (fun _ s'' => CX outer H s E e s'') (fun e' s'' => CX outer H s E e' s'') s'

theorem cell_has {sc : Scope} {n : Nat} {x : Str} (h : sc.names.lookup x = some .cell) : ∃ c, (cellsFrom n sc.names []).lookup x = some c := by
  have q := PySem.W.cellsFrom_some sc.names n [] (.inl h)
  exact Option.isSome_iff_exists.mp q

theorem inv_start {CX : CXT} {P : Program} {w : World} {K : PySem.W.Frag} {mg : Str → Option Value} {base : Heap} {N ps : List Str} {qual : Str} {scope : Scope} {f : Addr} {cd : Value} {A : Around} {outer : List Env} {s s1 : Shared} {H : Hp} {E : XK} {us : List Value} {vs : List V}
    (S : FnScope N ps scope) (hd : A.handled = none) (e0 : Env0 P w K mg base A outer s H) (hl : vs.length = ps.length) (r : Vals vs us)
    (x : InCallC s s.heap.objs.size (bindL (envOfC qual scope s.heap.objs.size f cd).kindOf (ps.zip us) fun _ => none) (cellsFrom (s.heap.objs.size + 1) scope.names []) (bindC (envOfC qual scope s.heap.objs.size f cd).kindOf (ps.zip us) fun _ => none) s1) :
    Inv (cxOf CX P w K mg base N qual scope f cd A outer s H E) [] (start N vs) H s1 := by
  have hpl : ps.length ≤ N.length := by have := congrArg List.length S.pre; rw [List.length_take] at this; omega
  obtain ⟨h1, tk, rfl, hk⟩ := x.done
  have noA : ∀ b : Addr, b ∉ (cxOf CX P w K mg base N qual scope f cd A outer s H E).ex := fun b z => absurd (show b ∈ ([] : List Addr) from z) (by simp)
  refine ⟨⟨e0.mod, S.kind, rfl, rfl, Nat.le_refl _, fun y z c h1 h2 => ?_, fun y hy => ?_, fun y c _ h => ?_, fun _ => hd, Around.frames_deeper e0.frames, .inr ⟨rfl, rfl⟩, fun b z => absurd z (noA b), e0.bs, e0.bsz, fun b _ _ => noA b, fun b z => absurd z (noA b), e0.funs, e0.frf⟩,
    rfl, e0.bare, Un.kept hk, ⟨_, x.toInCall.ns, fun i y v h1 h2 h3 => ?_⟩, fun y c h => ⟨_, x.cell y c h⟩, e0.hok.fresh (Nat.le_refl _), fun y c h => ?_, fun p hp => absurd (show p ∈ ([] : List (Addr × Obj)) from hp) (by simp), e0.hok.kept hk, ?_⟩
  · exact name_of_addr x.apart (PySem.mem_of_lookup h1) (PySem.mem_of_lookup h2)
  · have hy : scope.names.lookup y = some .cell ∨ scope.names.lookup y = some .free := hy
    rcases hy with hy | hy
    · exact cell_has hy
    · exact absurd rfl (S.nofree _ (PySem.mem_of_lookup hy))
  · exact Nat.le_of_lt (x.above y c (PySem.mem_of_lookup h))
  · have hi : i < vs.length := by
      unfold start at h2
      by_cases hi : i < vs.length
      · exact hi
      · rw [List.getElem?_append_right (by simpa using hi)] at h2
        rw [List.getElem?_replicate] at h2
        split at h2 <;> cases h2
    have ha : vs[i]? = some v := by
      unfold start at h2
      rw [List.getElem?_append_left (by simpa using hi), List.getElem?_map] at h2
      cases e : vs[i]? with
      | none => rw [e] at h2; cases h2
      | some a => rw [e] at h2; cases h2; rfl
    obtain ⟨u, hu, rv⟩ := r.get ha
    have hp : ps[i]? = some y := by
      rw [← S.pre, List.getElem?_take_of_lt (by omega)]; exact h1
    have ndP : ps.Nodup := by rw [← S.pre]; exact S.nd.sublist (List.take_sublist _ _)
    refine ⟨u, rv, ?_⟩
    rcases S.par y (List.mem_of_getElem? hp) with k | k
    · exact .inl ⟨k, bindL_get ndP hp hu k⟩
    · obtain ⟨c, e⟩ := cell_has (n := s.heap.objs.size + 1) k
      refine .inr ⟨.inl k, c, e, ?_⟩
      have q := x.cell y c e
      rw [bindC_get ndP hp hu (by show scope.names.lookup y ≠ _; rw [k]; decide)] at q
      exact q
  · exact e0.hok.fresh (Nat.le_of_lt (x.above y c (PySem.mem_of_lookup h)))
  · unfold start
    show _ = N.length
    rw [List.length_append, List.length_map, List.length_replicate]
    omega

/-- THE RULE: a def (or a method) of the text, by its body. The body's reading t is chosen for each entry; it is run at the parameters' values -/
theorem fn_of {CX : CXT} {P : Program} {w : World} {K : PySem.W.Frag} {mg : Str → Option Value} {base : Heap} {k : Nat} {f : Addr} {name qual : Str} {params : Arguments} {body : List Stmt} {scope : Scope} {dV kV doc pm cdv ct oc : Value} {an od : Option Addr}
    {osl : Array (Option Value)} {N ps : List Str} {sp : Sp} (lk : K.lookup f = some ⟨oc, od, .func (PySem.W.fnOf name qual params body scope dV kV doc pm an cdv ct), osl⟩) (hcd : PySem.W.codeIn K cdv qual = true) (S : FnScope N ps scope)
    (len : ∀ vs H Q E, sp vs H Q E → vs.length = ps.length)
    (hbody : ∀ (A : Around) (outer : List Env) (s : Shared) (H : Hp) (vs : List V) (Q : VK) (E : XK), Room k (A.deeper (envOfC qual scope s.heap.objs.size f cdv)) → sp vs H Q E →
      ∃ t, PSs (cxOf CX P w K mg base N qual scope f cdv A outer s H E) body t ∧ t { nx := fun _ H' => Q .non H', rt := Q } (start N vs) H) :
    FnOk P w K mg base CX (k + 1) f (PySem.W.fnOf name qual params body scope dV kV doc pm an cdv ct) ps sp := by
  refine ⟨len, fun A outer s H args us vs Q E hr e0 hb r hsp => ?_⟩
  have hl := len _ _ _ _ hsp
  have KX : K.In s.heap := e0.mod.kin.keeps fun b o e => (e0.bs b o e).1
  have lim : s.heap.NoLimit := e0.mod.nolimit.keeps fun b o e => (e0.bs b o e).1
  have hkind : ∀ y ∈ ps.zip us, scope.names.lookup y.1 = some .local ∨ (scope.names.lookup y.1 = some .cell ∧ ((cellsFrom (s.heap.objs.size + 1) scope.names []).lookup y.1).isSome = true) := fun ⟨n, v⟩ hy => by
    rcases S.par n (List.of_mem_zip hy).1 with q | q
    · exact .inl q
    · exact .inr ⟨q, PySem.W.cellsFrom_some _ _ _ (.inl q)⟩
  refine codeAny_call_function hr.depth (KX _ _ lk) rfl S.co S.gen rfl (PySem.W.codeRec_of KX hcd) (hb _ _ _ _ ?_)
  refine wpAny_newFunctionEnv_cells S.kind hkind fun env he s1 x => ?_
  subst he
  refine ⟨lim.keeps x.toInCall.keep, codeAny_func ?_⟩
  obtain ⟨t, ht, hq⟩ := hbody A outer s H vs Q E (hr.deeper _) hsp
  have I : Inv (cxOf CX P w K mg base N qual scope f cdv A outer s H E) [] (start N vs) H s1 := inv_start S hr.hd e0 hl r x
  refine wpAny_mono (ht [] s1 (start N vs) H _ I hq) (fun fl s' hs => ?_) fun e s' hs => hs
  have fin : ∀ {σ' : St} {H' : Hp} {v : V} {u : Value}, Inv (cxOf CX P w K mg base N qual scope f cdv A outer s H E) [] σ' H' s' → RelV v u → Q v H' → CE outer P w H s Q u s' :=
    fun {σ' H' v u} J rv q => ⟨v, H', J.os, J.bare, J.base, J.hok, rv, q⟩
  cases fl with
  | ret u =>
    obtain ⟨v, σ', H', J, rv, q⟩ := hs
    exact fin J rv q
  | next =>
    obtain ⟨σ', H', J, q⟩ := hs
    exact fin (v := V.non) (u := Value.none) J rfl q
  | brk =>
    obtain ⟨_, _, _, q⟩ := hs
    exact False.elim q
  | cont =>
    obtain ⟨_, _, _, q⟩ := hs
    exact False.elim q
end L2

namespace L2
open PySem PySem.Spec PyProof.Rows
section
variable {X : Cx} {x : Str} {p pos : Pos} {e : Expr} {es : List Expr} {t : TA} {id T : String} {r : List V → Hp → VK → Prop}

def tCB (r : List V → Hp → VK → Prop) (t : TA) : TE := fun σ H Q => t σ H fun vs H1 => r vs H1 Q
/-- f(e, ..), f a built-in function -/
theorem pe_callB (hc : CallR X (.builtin id) r) (hg : Gl X x) (hm : X.mg x = none) (hv : bootBuiltins x = some (.builtin id)) (ha : PA X (e :: es) t) (hn : x ≠ "__name__" := by decide) (hdb : (x == ("__debug__" : Str)) = false := by decide)
    (he : starEach (e :: es) X.env = (false, eval e X.env) :: starEach es X.env := by rfl) (hpl : (backTo pos (starEach es X.env)).any (·.1) = false := by rfl) : PE X (.Call (.Name x p) (e :: es) [] pos) (tCB r t) := by
  intro pins s σ H Q I h
  refine wpAny_Call_Name_kw (ld_blt I hg hm hv ?_ hn hdb)
  exact PyProof.Rows.callWith_builtin1 (thn (ha pos pins s σ H _ I h) fun us s1 ⟨vs, H1, I1, r1, q1⟩ => hc pins s1 σ H1 vs us Q I1 r1 q1) he hpl
/-- T(e, ..), T a built-in type -/
theorem pe_callTy (hc : CallR X (.type T) r) (hg : Gl X x) (hm : X.mg x = none) (hv : bootBuiltins x = some (.type T)) (ha : PA X (e :: es) t) (hn : x ≠ "__name__" := by decide) (hdb : (x == ("__debug__" : Str)) = false := by decide)
    (he : starEach (e :: es) X.env = (false, eval e X.env) :: starEach es X.env := by rfl) (hpl : (backTo pos (starEach es X.env)).any (·.1) = false := by rfl) : PE X (.Call (.Name x p) (e :: es) [] pos) (tCB r t) := by
  intro pins s σ H Q I h
  refine wpAny_Call_Name_kw (ld_blt I hg hm hv ?_ hn hdb)
  exact PyProof.Rows.callWith_type1 (thn (ha pos pins s σ H _ I h) fun us s1 ⟨vs, H1, I1, r1, q1⟩ => hc pins s1 σ H1 vs us Q I1 r1 q1) he hpl
end
end L2

namespace HT
open PySem PyProof.Rows

section
open PySem.SeqAt
open PySem.AutoSeq1 (wpAny_loadPart')
open PySem.MeetsSeq PySem.MeetsSeq2 PySem.MeetsSeq3

end

section
variable {prog : Program} {w : World} {A : Around} {E : Value → Shared → Prop} {s : Shared}

/-- t + u, t not empty -/
theorem cat_tup {t b : Addr} {vs ws : List Value} {Q : Value → Shared → Prop} (ht : IsTup s.heap t vs.toArray) (hb : IsTup s.heap b ws.toArray) (hv : vs ≠ [])
    (h1 : ws = [] → Q (.ref t) s) (h2 : ws ≠ [] → Q (.ref s.heap.objs.size) { s with heap := s.heap.push { cls := .type "tuple", data := .seq (vs ++ ws).toArray } })
    (hsz : vs.length + ws.length ≤ sizeLine) : wpAny (model prog w) A (binaryOp .Add (.ref t) (.ref b)) Q E s := by
  obtain ⟨⟨cls, dd, data, sl⟩, ho, hc, n, hd⟩ := id ht
  obtain ⟨⟨cls2, dd2, data2, sl2⟩, ho2, hc2, n2, hd2⟩ := id hb
  simp only at hc hd hc2 hd2
  subst hc hd hc2 hd2
  have e : vs.toArray ++ ws.toArray = (vs ++ ws).toArray := by simp
  by_cases hw : ws = []
  · exact concat_meets ⟨_, ho, rfl⟩ ⟨_, ho2, rfl⟩ noFill_tuple_add seq_tuple_add PySem.F.slot_tuple_add PySem.F.entry_tuple_add (PySem.F.args_tuple_add_2 _ _)
      (tuple_addW1 t b vs.toArray ws.toArray n n2 dd dd2 sl sl2 (by simpa using hv) (by simp [hw])) ⟨ho, ho2, h1 hw⟩
  · refine concat_meets ⟨_, ho, rfl⟩ ⟨_, ho2, rfl⟩ noFill_tuple_add seq_tuple_add PySem.F.slot_tuple_add PySem.F.entry_tuple_add (PySem.F.args_tuple_add_2 _ _)
      (tuple_addW2 t b vs.toArray ws.toArray n n2 dd dd2 sl sl2 (by simpa using hv) (by simpa using hw) (by rw [List.size_toArray, List.size_toArray]; exact hsz)) ⟨ho, ho2, ?_⟩
    rw [e]
    exact h2 hw

/-! ### t[a:b], not the whole -/
/-- a slice's bound as a place among n (d where it is left out) -/
def sIx (n d : Nat) : Option Int → Nat
  | none => d
  | some v => if v < 0 then (v + (n : Int)).toNat else min v.toNat n
theorem sIx_none (n d : Nat) : sIx n d none = d := rfl
theorem sIx_nat (n d k : Nat) : sIx n d (some (k : Int)) = min k n := by
  show (if (k : Int) < 0 then ((k : Int) + (n : Int)).toNat else min (k : Int).toNat n) = min k n
  rw [if_neg (by omega), Int.toNat_natCast]
theorem sIx_le (n d : Nat) (hd : d ≤ n) (o : Option Int) : sIx n d o ≤ n := by
  cases o with
  | none => exact hd
  | some v =>
    show (if v < 0 then (v + (n : Int)).toNat else min v.toNat n) ≤ n
    by_cases hv : v < 0
    · rw [if_pos hv]; omega
    · rw [if_neg hv]; exact Nat.min_le_right _ _
theorem clip_eq (v : Int) (n d : Nat) : (if v < 0 then max (v + (n : Int)) 0 else min v (n : Int)) = ((sIx n d (some v) : Nat) : Int) := by
  show (if v < 0 then max (v + (n : Int)) 0 else min v (n : Int)) = (((if v < 0 then (v + (n : Int)).toNat else min v.toNat n) : Nat) : Int)
  by_cases hv : v < 0
  · simp only [if_pos hv]; omega
  · simp only [if_neg hv]; omega
theorem adjust_gen (lo hi : Option Int) (n : Nat) : Builtin.Slice.sliceAdjust lo hi 1 (n : Int) = (((sIx n 0 lo : Nat) : Int), ((sIx n n hi : Nat) : Int)) := by
  have h1 : ¬ ((1 : Int) < 0) := by omega
  unfold Builtin.Slice.sliceAdjust
  simp only [h1, if_false]
  refine Prod.ext ?_ ?_
  · cases lo with
    | none => rfl
    | some v => exact clip_eq v n 0
  · cases hi with
    | none => rfl
    | some v => exact clip_eq v n n
theorem places_gen (i j : Nat) : Builtin.Slice.slicePlaces (i : Int) (j : Int) 1 = j - i := by
  unfold Builtin.Slice.slicePlaces
  have h1 : (1 : Int) > 0 := by omega
  simp only [h1, if_true, Int.ediv_one]
  split <;> omega
theorem slicePart_ {v : Value} {o : Option Int} {Q : Option Int → Shared → Prop} (p : IsPart v o) (h : Q o s) : wpAny (model prog w) A (Builtin.Slice.slicePartIndex v) Q E s := by
  cases p with
  | none => exact slicePart_none h
  | int i t => exact slicePart_int h
theorem sliceApplied_gen {sl : Addr} {vl vu : Value} {lo hi : Option Int} {n : Nat} {Q : Int × Int × Nat → Shared → Prop} (hs : s.heap.IsSliceOf sl vl vu .none) (pl : IsPart vl lo) (pu : IsPart vu hi)
    (h : Q (((sIx n 0 lo : Nat) : Int), 1, sIx n n hi - sIx n 0 lo) s) : wpAny (model prog w) A (Builtin.Slice.sliceApplied (.ref sl) (pure (n : Int))) Q E s := by
  obtain ⟨os, hos, hcs, hds⟩ := id hs
  unfold Builtin.Slice.sliceApplied Builtin.Slice.sliceFields
  refine wpAny_bind (wpAny_bind (wpAny_field hos hds (x := vl) rfl (wpAny_bind (wpAny_field hos hds (x := vu) rfl (wpAny_bind (wpAny_field hos hds (x := .none) rfl (wpAny_pure ?_)))))))
  refine wpAny_bind (slicePart_none ?_)
  show wpAny _ _ (if ((1 : Int) == 0) = true then _ else _) _ _ s
  rw [if_neg (by decide)]
  refine wpAny_bind (slicePart_ pl (wpAny_bind (slicePart_ pu (wpAny_bind (wpAny_pure ?_)))))
  show wpAny _ _ (match Builtin.Slice.sliceAdjust lo hi 1 (n : Int) with | (lo, hi) => pure (lo, (1 : Int), Builtin.Slice.slicePlaces lo hi 1)) _ _ s
  rw [adjust_gen lo hi n]
  show wpAny _ _ (pure (((sIx n 0 lo : Nat) : Int), (1 : Int), Builtin.Slice.slicePlaces ((sIx n 0 lo : Nat) : Int) ((sIx n n hi : Nat) : Int) 1)) _ _ s
  rw [places_gen]
  exact wpAny_pure h
theorem pick_gen (xs : Array Value) (i k : Nat) : ((List.range k).filterMap fun (m : Nat) => xs[((i : Int) + (m : Int) * 1).toNat]?).toArray = ((xs.toList.drop i).take k).toArray := by
  have e : (fun (m : Nat) => xs[((i : Int) + (m : Int) * 1).toNat]?) = fun m => xs[i + m]? := by
    funext m
    have : ((i : Int) + (m : Int) * 1).toNat = i + m := by omega
    rw [this]
  rw [e]
  have := pick_run xs i k
  rw [List.filterMap_map] at this
  have e2 : ((fun x => xs[x]?) ∘ fun x => i + x) = fun m => xs[i + m]? := rfl
  rw [e2] at this
  rw [this]

theorem getItem_tuple_cut {t sl : Addr} {items : Array Value} {vl vu : Value} {lo hi : Option Int} {Q : Value → Shared → Prop} (ht : IsTup s.heap t items) (hs : s.heap.IsSliceOf sl vl vu .none) (pl : IsPart vl lo) (pu : IsPart vu hi)
    (hw : ¬ (sIx items.size 0 lo = 0 ∧ sIx items.size items.size hi = items.size))
    (h : Q (.ref s.heap.objs.size) { s with heap := s.heap.push { cls := .type "tuple", data := .seq ((items.toList.drop (sIx items.size 0 lo)).take (sIx items.size items.size hi - sIx items.size 0 lo)).toArray } })
    (hsz : items.size ≤ sizeLine) : wpAny (model prog w) A (getItem (.ref t) (.ref sl)) Q E s := by
  have htake : sizeOk (.seq ((items.toList.drop (sIx items.size 0 lo)).take (sIx items.size items.size hi - sIx items.size 0 lo)).toArray) := by
    show ((items.toList.drop (sIx items.size 0 lo)).take (sIx items.size items.size hi - sIx items.size 0 lo)).toArray.size ≤ sizeLine
    rw [List.size_toArray, List.length_take, List.length_drop, Array.length_toList]
    omega
  have hj : sIx items.size items.size hi ≤ items.size := sIx_le _ _ (Nat.le_refl _) hi
  obtain ⟨os, hos, hcs, hds⟩ := id hs
  have hTs : s.TypeIs (.ref sl) "slice" := ⟨os, hos, hcs⟩
  unfold getItem
  try with_reducible refine wpAny_holding ?_
  first | refine wpAny_bind (wpAny_pure ?_) | skip
  refine wpAny_bind (wpAny_sequenceKey ht.typeIs (by decide) ?_)
  refine wpAny_bind (wpAny_callSpecial?_slot (name := Str.ofString "__getitem__") ht.typeIs PyProof.Rows.slot_tuple_getitem
    (wpAny_call_entry PyProof.Rows.slot_tuple_getitem ht.typeIs entry_tuple_getitem ?_ (args_tuple_getitem _ _)))
  show wpAny _ _ (Builtin.Tuple.tupleItemsOf (.ref t) >>= _) _ _ s
  refine wpAny_bind (tupleItemsOf_ ht ?_)
  refine wpAny_bind (wpAny_typeOf hTs ?_)
  rw [if_pos (by decide)]
  refine wpAny_bind (sliceApplied_gen hs pl pu ?_)
  have hno : ¬ ((((sIx items.size 0 lo : Nat) : Int) == 0 && (1 : Int) == 1 && (sIx items.size items.size hi - sIx items.size 0 lo) == items.size) = true) := by
    intro q
    rw [Bool.and_eq_true, Bool.and_eq_true] at q
    have q1 : ((sIx items.size 0 lo : Nat) : Int) = 0 := eq_of_beq q.1.1
    have q2 : sIx items.size items.size hi - sIx items.size 0 lo = items.size := eq_of_beq q.2
    exact hw ⟨by omega, by omega⟩
  show wpAny _ _ (if (((sIx items.size 0 lo : Nat) : Int) == 0 && (1 : Int) == 1 && (sIx items.size items.size hi - sIx items.size 0 lo) == items.size) = true then _ else _) _ _ s
  rw [if_neg hno, pick_gen]
  first
    | exact wpAny_bind (m := Builtin.Tuple.tupleExact _) (wpAny_newObj_type (wpAny_pure ⟨_, rfl, wpAny_pure h⟩) htake)
    | exact wpAny_bind (m := Builtin.Tuple.tupleExact _) (wpAny_newObj_type (wpAny_bind (wpAny_pure (wpAny_pure ⟨_, rfl, wpAny_pure h⟩))) htake)
    | exact wpAny_bind (wpAny_bind (m := Builtin.Tuple.tupleExact _) (wpAny_newObj_type (wpAny_pure (wpAny_pure ⟨_, rfl, wpAny_pure h⟩)) htake))
    | exact wpAny_bind (wpAny_bind (m := Builtin.Tuple.tupleExact _) (wpAny_newObj_type (wpAny_pure ⟨_, rfl, wpAny_pure h⟩) htake))
end
end HT

namespace L2
open PySem PySem.Spec PyProof.Rows

/-! ### the parts of a slice -/
abbrev TO := St → Hp → (Option Int → Hp → Prop) → Prop
/-- a slice's part (left out, or an int) -/
def PO (X : Cx) (e : Option Expr) (t : TO) : Prop :=
  ∀ (pins : List (Addr × Obj)) (s : Shared) (σ : St) (H : Hp) (Q : Option Int → Hp → Prop), Inv X pins σ H s → t σ H Q →
    wpAny (model X.prog X.w) X.A (evalPart e X.env) (fun u s' => ∃ o H', Inv X pins σ H' s' ∧ IsPart u o ∧ Q o H') X.xe s
def tNoPart : TO := fun _ H Q => Q none H
def tPart (t : TE) : TO := fun σ H Q => t σ H fun x H1 => ∃ i, x = .int i ∧ Q (some i) H1

section
variable {X : Cx} {e : Expr} {te : TE} {lo hi : Option Expr} {tl th : TO} {pos p2 : Pos}

theorem po_none : PO X none tNoPart := by
  intro pins s σ H Q I h
  rw [evalPart_none]
  exact wpAny_pure ⟨none, H, I, .none, h⟩
theorem po_some (h : PE X e te) : PO X (some e) (tPart te) := by
  intro pins s σ H Q I hw
  rw [evalPart_some]
  refine thn (h pins s σ H _ I hw) fun u s1 ⟨x, H1, I1, r1, q1⟩ => ?_
  obtain ⟨i, rfl, q⟩ := q1
  obtain ⟨t, rfl⟩ := r1
  exact ⟨some i, H1, I1, .int i t, q⟩

/-- what a slice of a value is, by values: the slice object stands at sl -/
def SlR (X : Cx) (r : V → Option Int → Option Int → Hp → VK → Prop) : Prop :=
  ∀ (pins : List (Addr × Obj)) (s : Shared) (σ : St) (H : Hp) (x : V) (v vl vu : Value) (lo hi : Option Int) (sl : Addr) (Q : VK), Inv X pins σ H s → RelV x v → s.heap.IsSliceOf sl vl vu .none → IsPart vl lo → IsPart vu hi → r x lo hi H Q →
    ∃ T id, typeLookup (.type T) "__getitem__" = pure (some (.builtin id)) ∧ s.TypeIs v T ∧ wpAny (model X.prog X.w) X.A (getItem v (.ref sl)) (EP X pins σ Q) X.xe s
def tSl (r : V → Option Int → Option Int → Hp → VK → Prop) (te : TE) (tl th : TO) : TE := fun σ H Q => te σ H fun x H1 => tl σ H1 fun l H2 => th σ H2 fun u H3 => r x l u H3 Q
/-- a[lo:hi], any a -/
theorem pe_slice {r : V → Option Int → Option Int → Hp → VK → Prop} (hr : SlR X r) (he : PE X e te) (hl : PO X lo tl) (hu : PO X hi th) : PE X (.Subscript e (.Slice lo hi none p2) pos) (tSl r te tl th) := by
  intro pins s σ H Q I h
  refine Subscript_ (thn (he pins s σ H _ I h) fun v s1 ⟨x, H1, I1, r1, q1⟩ => ?_)
  refine wpAny_Slice (thn (hl pins s1 σ H1 _ I1 q1) fun vl s2 ⟨l, H2, I2, pl, q2⟩ => thn (hu pins s2 σ H2 _ I2 q2) fun vu s3 ⟨u, H3, I3, pu, q3⟩ => ?_)
  rw [evalPart_none]
  refine wpAny_pure ?_
  have I4 : Inv X pins σ H3 { s3 with heap := s3.heap.push { cls := .type "slice", data := .fields #[vl, vu, .none] } } := I3.kept (t' := s3.toks) fun b ob q => Heap.get?_push_of_some _ q
  obtain ⟨T, id, hT, ht, hg⟩ := hr pins { s3 with heap := s3.heap.push { cls := .type "slice", data := .fields #[vl, vu, .none] } } σ H3 x v vl vu l u s3.heap.objs.size Q I4 r1 (Heap.IsSliceOf.new ..) pl pu q3
  show wpAny (model X.prog X.w) X.A (subscriptTail e (.Slice lo hi none p2) v (.ref s3.heap.objs.size)) (EP X pins σ Q) X.xe { s3 with heap := s3.heap.push { cls := .type "slice", data := .fields #[vl, vu, .none] } }
  exact tail_any (ops := [.ref s3.heap.objs.size, v]) ht hT hg (by with_unfolding_all rfl)

/-- the items of xs[lo:hi] -/
def cutV (xs : List V) (lo hi : Option Int) : List V := (xs.drop (HT.sIx xs.length 0 lo)).take (HT.sIx xs.length xs.length hi - HT.sIx xs.length 0 lo)
theorem cutV_length (xs : List V) (lo hi : Option Int) : (cutV xs lo hi).length ≤ xs.length := by
  unfold cutV
  rw [List.length_take, List.length_drop]
  omega
/-- t[lo:hi], not the whole of it (the whole would be t itself) -/
def rSlT (K : PySem.W.Frag) : V → Option Int → Option Int → Hp → VK → Prop := fun x lo hi H Q => ∃ a xs, x = .ref a ∧ SqT K H a xs ∧
  ¬ (HT.sIx xs.length 0 lo = 0 ∧ HT.sIx xs.length xs.length hi = xs.length) ∧ ∀ p, H p = none → Q (.ref p) (upd H p (.tup (cutV xs lo hi)))
theorem sl_tup : SlR X (rSlT X.K) := by
  intro pins s σ H x v vl vu lo hi sl Q I rx hs pl pu h
  obtain ⟨a, xs, rfl, hx, hw, q⟩ := h
  cases rx
  obtain ⟨its, r, ht, hz⟩ := I.tuple hx
  have hlen : its.toArray.size = xs.length := by rw [List.size_toArray]; exact r.length.symm
  refine ⟨"tuple", _, PyProof.Rows.slot_tuple_getitem.lookup, ht.typeIs, ?_⟩
  refine HT.getItem_tuple_cut ht hs pl pu (by rw [hlen]; exact hw) ?_ (by rw [hlen]; exact hz)
  rw [hlen]
  refine ⟨.ref s.heap.objs.size, _, I.laid (t' := s.toks) (o := .tup (cutV xs lo hi)) (fun b ob q => Heap.get?_push_of_some _ q) (Nat.le_refl _) ?_, rfl, q _ (I.hok.fresh (Nat.le_refl _))⟩
  exact ⟨Nat.le_trans (cutV_length xs lo hi) hz, _, (r.drop (HT.sIx xs.length 0 lo)).take (HT.sIx xs.length xs.length hi - HT.sIx xs.length 0 lo), IsTup.new _ _⟩

/-! ### t < u, t + u -/
/-- t + u, t not empty: u empty gives t itself -/
def rCatT (K : PySem.W.Frag) : R2 := fun x y H Q => ∃ a b xs ys, x = .ref a ∧ y = .ref b ∧ SqT K H a xs ∧ SqT K H b ys ∧ xs ≠ [] ∧ xs.length + ys.length ≤ sizeLine ∧
  (ys = [] → Q (.ref a) H) ∧ (ys ≠ [] → ∀ p, H p = none → Q (.ref p) (upd H p (.tup (xs ++ ys))))
theorem Vals.nil_iff {xs : List V} {us : List Value} (r : Vals xs us) : us = [] ↔ xs = [] := by
  cases r with
  | nil => simp
  | cons _ _ => simp
theorem op_catT : OpR X (binaryOp .Add) (rCatT X.K) := by
  intro pins s σ H x y v u Q I rx ry h
  obtain ⟨a, b, xs, ys, rfl, rfl, ha, hb, hx, hz, q1, q2⟩ := h
  cases rx
  cases ry
  obtain ⟨its, r1, p1, _⟩ := I.tuple ha
  obtain ⟨its2, r2, p2, _⟩ := I.tuple hb
  refine HT.cat_tup p1 p2 (fun z => hx (r1.nil_iff.mp z)) (fun z => ⟨.ref a, H, I, rfl, q1 (r2.nil_iff.mp z)⟩) (fun z => ?_) (by rw [← r1.length, ← r2.length]; exact hz)
  refine ⟨.ref s.heap.objs.size, _, I.laid (t' := s.toks) (o := .tup (xs ++ ys)) (fun b ob q => Heap.get?_push_of_some _ q) (Nat.le_refl _) ?_, rfl, q2 (fun w => z (r2.nil_iff.mpr w)) _ (I.hok.fresh (Nat.le_refl _))⟩
  exact ⟨by rw [List.length_append]; exact hz, _, r1.append r2, IsTup.new _ _⟩
end
end L2

namespace L2
open PySem PySem.Spec PyProof.Rows

/-! ### places -/
/-- the place that an index of any sign means -/
def ixN (n : Nat) (i : Int) : Option Nat := if 0 ≤ i then (if i < n then some i.toNat else none) else if -(n : Int) ≤ i then some (i + n).toNat else none
def atI {α : Type} (xs : List α) (i : Int) : Option α := (ixN xs.length i).bind fun j => xs[j]?
theorem ixN_seq {n : Nat} {i : Int} {j : Nat} (h : ixN n i = some j) : seqIndex? i n = some j ∧ j < n ∧ -(n : Int) ≤ i ∧ i < n := by
  unfold ixN at h
  by_cases h0 : 0 ≤ i
  · rw [if_pos h0] at h
    by_cases h1 : i < n
    · rw [if_pos h1] at h
      have e : i.toNat = j := Option.some.inj h
      exact ⟨by rw [seqIndex_of h0 h1, e], by omega, by omega, h1⟩
    · rw [if_neg h1] at h; cases h
  · rw [if_neg h0] at h
    by_cases h1 : -(n : Int) ≤ i
    · rw [if_pos h1] at h
      have e : (i + n).toNat = j := Option.some.inj h
      exact ⟨by rw [seqIndex_neg (by omega) h1, e], by omega, h1, by omega⟩
    · rw [if_neg h1] at h; cases h
theorem atI_get {α : Type} {xs : List α} {i : Int} {v : α} (h : atI xs i = some v) : ∃ j, seqIndex? i xs.length = some j ∧ xs[j]? = some v ∧ j < xs.length ∧ -(xs.length : Int) ≤ i ∧ i < xs.length := by
  unfold atI at h
  cases e : ixN xs.length i with
  | none => rw [e] at h; cases h
  | some j =>
    rw [e] at h
    obtain ⟨h1, h2, h3, h4⟩ := ixN_seq e
    exact ⟨j, h1, h, h2, h3, h4⟩
theorem atI_nat {α : Type} {xs : List α} {j : Nat} {v : α} (h : xs[j]? = some v) : atI xs (j : Int) = some v := by
  have hj : j < xs.length := (List.getElem?_eq_some_iff.mp h).1
  have e : ixN xs.length (j : Int) = some j := by
    unfold ixN
    rw [if_pos (by omega), if_pos (by omega)]; simp
  unfold atI; rw [e]; exact h
theorem atI_last {α : Type} (xs : List α) (v : α) : atI (xs ++ [v]) (-1) = some v := by
  have hl : (xs ++ [v]).length = xs.length + 1 := by simp
  have e : ixN (xs ++ [v]).length (-1) = some xs.length := by
    unfold ixN
    rw [hl, if_neg (by decide), if_pos (by omega)]
    congr 1
    omega
  unfold atI
  rw [e]
  show (xs ++ [v])[xs.length]? = some v
  simp

/-! ### what may be subscripted -/
/-- what stands as an index of a plain subscript -/
def PlainIx (b : Expr) : Prop := ∀ o i, subscripted b false o i = operate [o, i] (getItem o i)
/-- a subscript by values -/
def IxR (X : Cx) (r : R2) : Prop :=
  ∀ (value slice : Expr) (pins : List (Addr × Obj)) (s : Shared) (σ : St) (H : Hp) (x y : V) (v u : Value) (Q : VK), Inv X pins σ H s → RelV x v → RelV y u → r x y H Q →
    subscripted slice false v u = operate [v, u] (getItem v u) → wpAny (model X.prog X.w) X.A (subscriptTail value slice v u) (EP X pins σ Q) X.xe s
/-- a call of a builtin's method by values: the receiver, the arguments -/
def MtR (X : Cx) (id : String) (r : V → List V → Hp → VK → Prop) : Prop :=
  ∀ (pins : List (Addr × Obj)) (s : Shared) (σ : St) (H : Hp) (x : V) (xs : List V) (v : Value) (us : List Value) (Q : VK), Inv X pins σ H s → RelV x v → Vals xs us → r x xs H Q →
    wpAny (model X.prog X.w) X.A (call (.builtin id) (v :: us)) (EP X pins σ Q) X.xe s
section
variable {X : Cx} {a b : Expr} {ta tb : TE} {pos : Pos}
theorem IxR.or {r r' : R2} (h : IxR X r) (h' : IxR X r') : IxR X (fun x y H Q => r x y H Q ∨ r' x y H Q) := by
  intro value slice pins s σ H x y v u Q I rx ry q hs
  rcases q with q | q
  · exact h value slice pins s σ H x y v u Q I rx ry q hs
  · exact h' value slice pins s σ H x y v u Q I rx ry q hs
/-- a[b] -/
theorem pe_ix {r : R2} (hr : IxR X r) (ha : PE X a ta) (hb : PE X b tb) (hs : PlainIx b) : PE X (.Subscript a b pos) (tOp r ta tb) := by
  intro pins s σ H Q I h
  exact Subscript_ (binT ha hb I h fun v u s2 x y H2 I2 rx ry q => hr a b pins s2 σ H2 x y v u Q I2 rx ry q (hs _ _))

def rIxL (K : PySem.W.Frag) : R2 := fun x y H Q => ∃ p xs i v, x = .ref p ∧ y = .int i ∧ SqL K H p xs ∧ atI xs i = some v ∧ Q v H
def rIxT (K : PySem.W.Frag) : R2 := fun x y H Q => ∃ p xs i v, x = .ref p ∧ y = .int i ∧ SqT K H p xs ∧ atI xs i = some v ∧ Q v H
def rIxS : R2 := fun x y H Q => ∃ z i c, x = .str z ∧ y = .int i ∧ z.length ≤ sizeLine ∧ atI z.cps.toList i = some c ∧ Q (.str ⟨#[c]⟩) H
theorem ix_list : IxR X (rIxL X.K) := by
  intro value slice pins s σ H x y v u Q I rx ry h hs
  obtain ⟨p, xs, i, z, rfl, rfl, hq, he, q⟩ := h
  cases rx
  obtain ⟨t, rfl⟩ := ry
  obtain ⟨its, r, pl, hz⟩ := I.list hq
  obtain ⟨j, h1, h2, h3, h4, h5⟩ := atI_get he
  obtain ⟨w, ew, rw'⟩ := r.get h2
  have hl := r.length
  have hn := line63
  have fin : EP X pins σ Q w s := ⟨z, H, I, rw', q⟩
  by_cases h0 : 0 ≤ i
  · have hj : i.toNat = j := by
      rw [seqIndex_of h0 h5] at h1
      exact Option.some.inj h1
    exact item_listR pl.isList h0 (by omega) (by rw [hj]; simpa using ew) fin hs
  · have hj : (i + (its.toArray.size : Int)).toNat = j := by
      rw [seqIndex_neg (by omega) h4] at h1
      rw [List.size_toArray, ← hl]
      exact Option.some.inj h1
    exact subscriptTail_builtinR (x := w) pl.isList.typeIs slot_list_getitem.lookup
      (wpAny_getItem_list_neg (Q := fun r s' => r = w ∧ EP X pins σ Q r s') pl.isList (by omega) (by rw [List.size_toArray] <;> omega) (by omega) (by rw [hj]; simpa using ew) ⟨rfl, fin⟩) hs
theorem ix_tup : IxR X (rIxT X.K) := by
  intro value slice pins s σ H x y v u Q I rx ry h hs
  obtain ⟨p, xs, i, z, rfl, rfl, hq, he, q⟩ := h
  cases rx
  obtain ⟨t, rfl⟩ := ry
  obtain ⟨its, r, pl, hz⟩ := I.tuple hq
  obtain ⟨j, h1, h2, h3, h4, h5⟩ := atI_get he
  obtain ⟨w, ew, rw'⟩ := r.get h2
  have hl := r.length
  have hn := line63
  have fin : EP X pins σ Q w s := ⟨z, H, I, rw', q⟩
  exact subscriptTail_builtinR (x := w) pl.typeIs slot_tuple_getitem.lookup
    (getItem_tuple (j := j) (Q := fun r s' => r = w ∧ EP X pins σ Q r s') pl (by omega) (by omega) (by rw [List.size_toArray, ← hl]; exact h1) (by simpa using ew) ⟨rfl, fin⟩) hs
theorem ix_str : IxR X rIxS := by
  intro value slice pins s σ H x y v u Q I rx ry h hs
  obtain ⟨z, i, c, rfl, rfl, hz, he, q⟩ := h
  obtain ⟨t, rfl⟩ := rx
  obtain ⟨t', rfl⟩ := ry
  obtain ⟨j, h1, h2, h3, h4, h5⟩ := atI_get he
  have hl : z.cps.toList.length = z.length := by simp [Str.length]
  rw [hl] at h1 h4 h5
  have hn := line63
  exact tail_any (typeIs_str s z t) slot_str_getitem.lookup (getItem_str (c := c) (by
    have e1 : decide (i < -(2 ^ 63 : Int)) = false := decide_eq_false (by omega)
    have e2 : decide (i ≥ 2 ^ 63) = false := decide_eq_false (by omega)
    rw [e1, e2, Bool.or_false]) (by rw [h1]; simpa using h2) ⟨.str ⟨#[c]⟩, H, I.tok _, ⟨_, rfl⟩, q⟩) hs
/-- list, tuple or str -/
def rIx (K : PySem.W.Frag) : R2 := fun x y H Q => rIxL K x y H Q ∨ rIxT K x y H Q ∨ rIxS x y H Q
theorem ix_seq : IxR X (rIx X.K) := ix_list.or (ix_tup.or ix_str)

/-! ### xs[i] = v, any sign -/
/-- the list's object behind a store -/
theorem mapSeq_set (its : List Value) (n j : Nat) (u : Value) : Obj.mapSeq (·.setIfInBounds j u) { cls := .type "list", data := .seq its.toArray n } = { cls := .type "list", data := .seq (its.set j u).toArray n } := by
  simp [Obj.mapSeq]
theorem Inv.lst {pins : List (Addr × Obj)} {σ : St} {H : Hp} {s : Shared} {p : Addr} {xs : List V} (I : Inv X pins σ H s) (h : H p = some (.lst xs)) :
    ∃ (its : List Value) (n : Nat), Vals xs its ∧ s.heap.get? p = some { cls := .type "list", data := .seq its.toArray n } ∧ xs.length ≤ sizeLine := by
  obtain ⟨z, its, n, r, e⟩ := I.hok p _ h
  exact ⟨its, n, r, e, z⟩
/-- the list at p is written by an update of its object -/
theorem Inv.lstUpd {pins : List (Addr × Obj)} {σ : St} {H : Hp} {s : Shared} {p : Addr} {xs ys : List V} {its its' : List Value} {n n' : Nat} {f : Obj → Obj} (I : Inv X pins σ H s) (h : H p = some (.lst xs))
    (ho : s.heap.get? p = some { cls := .type "list", data := .seq its.toArray n }) (hf : f { cls := .type "list", data := .seq its.toArray n } = { cls := .type "list", data := .seq its'.toArray n' }) (r : Vals ys its') (hz : ys.length ≤ sizeLine) (t : Nat) :
    Inv X pins σ (upd H p (.lst ys)) { s with heap := s.heap.update p f, toks := t } := by
  have e : (s.heap.update p f).get? p = some { cls := .type "list", data := .seq its'.toArray n' } := by
    rw [Heap.get?_update_self f ho (by rw [hf] <;> rfl), hf]
  refine I.write (x := p) (e := p) (by rw [h]; trivial) (.inl rfl) (fun b u hb q => (Heap.get?_update_other _ _ (Ne.symm hb)).trans q) ⟨_, e⟩ ?_
  exact ⟨hz, its', n', r, e⟩
def rSetL : V → V → V → Hp → (Hp → Prop) → Prop := fun o i v H Q => ∃ p xs k j, o = .ref p ∧ i = .int k ∧ H p = some (.lst xs) ∧ ixN xs.length k = some j ∧ Q (upd H p (.lst (xs.set j v)))
theorem set_list : PSet X rSetL := by
  intro pins s σ H o i v ov iv u Q I ro ri rv h
  obtain ⟨p, xs, k, j, rfl, rfl, hp, hj, q⟩ := h
  cases ro
  obtain ⟨t, rfl⟩ := ri
  obtain ⟨its, n, r, ho, hz⟩ := I.lst hp
  obtain ⟨h1, h2, h3, h4⟩ := ixN_seq hj
  have hl := r.length
  have hn := line63
  have I' : Inv X pins σ (upd H p (.lst (xs.set j v))) { s with heap := s.heap.update p (Obj.mapSeq (·.setIfInBounds j u)) } :=
    I.lstUpd hp ho (mapSeq_set its n j u) (r.set rv j) (by rw [List.length_set]; exact hz) s.toks
  by_cases h0 : 0 ≤ k
  · have hk : k.toNat = j := by
      rw [seqIndex_of h0 h4] at h1
      exact Option.some.inj h1
    exact PySem.W.ki_setAt ho h0 (by omega) (by rw [List.size_toArray, ← hl]; exact h4) (by rw [hk]; exact ⟨_, I', q⟩)
  · have hk : (k + (its.toArray.size : Int)).toNat = j := by
      rw [seqIndex_neg (by omega) h3] at h1
      rw [List.size_toArray, ← hl]
      exact Option.some.inj h1
    exact PySem.W.ki_setBack ho (by omega) (by rw [List.size_toArray, ← hl]; exact h3) (by omega) (by rw [hk]; exact ⟨_, I', q⟩)

/-! ### slices -/
/-! ### in, not in: flat items -/
/-! ### len, list(x), tuple(x) of any list or tuple that is read -/
theorem call_len_seq : CallR X (.builtin "len") (fun xs H Q => ∃ p ys, xs = [.ref p] ∧ (SqL X.K H p ys ∨ SqT X.K H p ys) ∧ Q (.int ys.length) H) := by
  intro pins s σ H xs us Q I r h
  obtain ⟨p, ys, rfl, hq, q⟩ := h
  obtain ⟨u, rfl, rx⟩ := vals1 r
  cases rx
  have hn := line63
  rcases hq with hq | hq
  · obtain ⟨its, r', pl, hz⟩ := I.list hq
    have hlen := r'.length
    exact Calls.call_len_list pl.isList (by simp only [List.size_toArray] <;> omega) ⟨.int ys.length, H, I.tok _, ⟨s.toks + 1, by rw [List.size_toArray, hlen]⟩, q⟩
  · obtain ⟨its, r', pl, hz⟩ := I.tuple hq
    have hlen := r'.length
    exact len_tuple pl (by simp only [List.size_toArray] <;> omega) ⟨.int ys.length, H, I.tok _, ⟨s.toks + 1, by rw [List.size_toArray, hlen]⟩, q⟩
theorem call_list_of : CallR X (.type "list") (fun xs H Q => ∃ p ys, xs = [.ref p] ∧ (SqL X.K H p ys ∨ SqT X.K H p ys) ∧ ∀ l, H l = none → Q (.ref l) (upd H l (.lst ys))) := by
  intro pins s σ H xs us Q I r h
  obtain ⟨p, ys, rfl, hq, q⟩ := h
  obtain ⟨u, rfl, rx⟩ := vals1 r
  cases rx
  have fin : ∀ (its : List Value), Vals ys its → ys.length ≤ sizeLine → ∀ (h' : Heap) (c' : Nat), (∀ b o', s.heap.get? b = some o' → h'.get? b = some o') →
      h'.get? s.heap.objs.size = some { cls := .type "list", dict := none, data := .seq its.toArray c', slots := #[] } → EP X pins σ Q (.ref s.heap.objs.size) { s with heap := h' } := fun its r' hz h' c' kp e =>
    ⟨.ref s.heap.objs.size, _, I.laid (t' := s.toks) kp (Nat.le_refl _) (show ObjOk X.prog X.w _ h' _ (.lst ys) from ⟨hz, its, c', r', e⟩), rfl, q _ (I.hok.fresh (Nat.le_refl _))⟩
  rcases hq with hq | hq
  · obtain ⟨its, r', pl, hz⟩ := I.list hq
    have hlen := r'.length
    obtain ⟨o, ho, hc, n, hd⟩ := pl.isList
    exact call_list_seq p (.inl rfl) ho hc hd (fun h' c' kp e => fin its r' hz h' c' kp e) (by simp only [List.size_toArray] <;> omega)
  · obtain ⟨its, r', pl, hz⟩ := I.tuple hq
    have hlen := r'.length
    obtain ⟨o, ho, hc, n, hd⟩ := pl
    exact call_list_seq p (.inr rfl) ho hc hd (fun h' c' kp e => fin its r' hz h' c' kp e) (by simp only [List.size_toArray] <;> omega)
theorem call_tuple_of : CallR X (.type "tuple") (fun xs H Q => ∃ p ys, xs = [.ref p] ∧ ((SqL X.K H p ys ∧ ∀ l, H l = none → Q (.ref l) (upd H l (.tup ys))) ∨ (SqT X.K H p ys ∧ Q (.ref p) H))) := by
  intro pins s σ H xs us Q I r h
  obtain ⟨p, ys, rfl, h⟩ := h
  obtain ⟨u, rfl, rx⟩ := vals1 r
  cases rx
  rcases h with ⟨hq, q⟩ | ⟨hq, q⟩
  · obtain ⟨its, r', pl, hz⟩ := I.list hq
    have hlen := r'.length
    refine call_tuple_list pl.isList (fun h' kp => ?_) (by simp only [List.size_toArray] <;> omega)
    have I1 : Inv X pins σ H { s with heap := h' } := I.kept (t' := s.toks) kp
    have I2 : Inv X pins σ (upd H h'.objs.size (.tup ys)) { s with heap := h'.push { cls := .type "tuple", data := .seq its.toArray } } :=
      I1.laid (t' := s.toks) (fun b o e => Heap.get?_push_of_some _ e) (Nat.le_refl _) (show ObjOk X.prog X.w _ _ _ (.tup ys) from ⟨hz, its, r', IsTup.new _ _⟩)
    exact ⟨.ref h'.objs.size, _, I2, rfl, q _ (I1.hok.fresh (Nat.le_refl _))⟩
  · obtain ⟨its, r', pl, hz⟩ := I.tuple hq
    exact call_tuple_same pl ⟨.ref p, H, I, rfl, q⟩

/-! ### the call of a builtin's method: o.m(..) -/
/-- the value is of that builtin type -/
def tyV (K : PySem.W.Frag) (T : String) (x : V) (H : Hp) : Prop := match x with
  | .str _ => T = "str"
  | .int _ => T = "int"
  | .ref p => (T = "list" ∧ ∃ xs, SqL K H p xs) ∨ (T = "tuple" ∧ ∃ o, K.lookup p = some o ∧ o.cls = .type "tuple" ∧ o.dict = none) ∨
      (T = "dict" ∧ ((∃ kvs, H p = some (.dK kvs)) ∨ ∃ kvs, H p = some (.dT kvs))) ∨ (T = "set" ∧ ∃ S n, H p = some (.set S n))
  | _ => False
theorem tyV_is {pins : List (Addr × Obj)} {σ : St} {H : Hp} {s : Shared} {T : String} {x : V} {v : Value} (I : Inv X pins σ H s) (r : RelV x v) (ty : tyV X.K T x H) :
    s.TypeIs v T ∧ ∀ a, v = .ref a → ∃ ob, s.heap.get? a = some ob ∧ ob.dict = none := by
  cases x with
  | str z =>
    obtain ⟨t, rfl⟩ := r
    cases (show T = "str" from ty)
    exact ⟨typeIs_str s z t, fun _ e => nomatch e⟩
  | int i =>
    obtain ⟨t, rfl⟩ := r
    cases (show T = "int" from ty)
    exact ⟨typeIs_int s i t, fun _ e => nomatch e⟩
  | ref p =>
    cases r
    rcases ty with ⟨rfl, xs, hq⟩ | ⟨rfl, o, hk, hc, hd⟩ | ⟨rfl, hk⟩ | ⟨rfl, S, n, hk⟩
    · obtain ⟨its, _, pl, _⟩ := I.list hq
      refine ⟨pl.isList.typeIs, fun a e => ?_⟩
      cases e
      obtain ⟨o, n, e, c, hd, _⟩ := pl
      exact ⟨o, e, hd⟩
    · refine ⟨⟨o, I.kIn p o hk, hc⟩, fun a e => ?_⟩
      cases e
      exact ⟨o, I.kIn _ o hk, hd⟩
    · have z : ∃ o, s.heap.get? p = some o ∧ o.ExactDict := by
        rcases hk with ⟨kvs, hk⟩ | ⟨kvs, hk⟩
        · obtain ⟨_, _, _, _, o, _, _, e, ex, _⟩ := I.hok p _ hk
          exact ⟨o, e, ex⟩
        · obtain ⟨_, _, _, _, o, _, _, e, ex, _⟩ := I.hok p _ hk
          exact ⟨o, e, ex⟩
      obtain ⟨o, e, ex⟩ := z
      refine ⟨⟨o, e, ex.1⟩, fun a e2 => ?_⟩
      cases e2
      exact ⟨o, e, ex.2.1⟩
    · obtain ⟨o, _, _, _, e, ex, _⟩ := I.hok p _ hk
      refine ⟨⟨o, e, ex.1⟩, fun a e2 => ?_⟩
      cases e2
      exact ⟨o, e, ex.2.1⟩
  | _ => exact False.elim ty
def tBM (K : PySem.W.Frag) (T : String) (r : V → List V → Hp → VK → Prop) (to : TE) (t : TA) : TE := fun σ H Q => to σ H fun x H1 => tyV K T x H1 ∧ t σ H1 fun xs H2 => r x xs H2 Q
variable {o e : Expr} {es : List Expr} {to : TE} {t : TA} {name : Str} {apos cpos : Pos} {T id : String} {r : V → List V → Hp → VK → Prop}
theorem pe_bm (pa : PlainAttrs T) (slot : Slot T name id) (hty : typeOf (.builtin id) = pure (.type "method_descriptor")) (hm : MtR X id r) (ho : PE X o to) (ha : PA X (e :: es) t)
    (hbase : attributeBase o name X.env (eval o X.env) = eval o X.env := by rfl)
    (hfew : ((backTo cpos (starEach (e :: es) X.env)).all (fun x => !x.1) && (backToKw cpos (keywordEach [] X.env)).all (fun x => x.1.isSome)
      && decide ((e :: es).length + ([] : List Keyword).length + (if ([] : List Keyword).isEmpty then 0 else 1) < 30)) = true := by rfl)
    (hline : (apos.endLine == cpos.line) = true := by rfl) (hs : starEach (e :: es) X.env = (false, eval e X.env) :: starEach es X.env := by rfl) (hplain : (backTo cpos (starEach es X.env)).any (·.1) = false := by rfl) :
    PE X (.Call (.Attribute o name apos) (e :: es) [] cpos) (tBM X.K T r to t) := by
  intro pins s σ H Q I h
  refine wpAny_Call_method_late hbase hfew hline rfl (thn (ho pins s σ H _ I h) fun v s1 ⟨x, H1, I1, r1, ty, q1⟩ => ?_)
  obtain ⟨h1, h2⟩ := tyV_is I1 r1 ty
  refine ⟨T, id, pa, slot, hty, h1, h2, ?_⟩
  have hA := ha cpos pins s1 σ H1 _ I1 q1
  rw [hs] at hA ⊢
  refine Calls.callWith_builtin (by show (false || (backTo cpos (starEach es X.env)).any (·.1)) = false; rw [hplain] <;> rfl) (Calls.evalArgs_plain ?_)
  exact thn hA fun us s2 ⟨vs, H2, I2, r2, q2⟩ => hm pins s2 σ H2 x vs v us Q I2 r1 r2 q2
/- xs.append(e), list.index on a module's tuple .. are MtR facts of 06m -/
end
end L2

namespace L2
open PySem PySem.Spec PyProof.Rows

def MtM (X : Cx) (id : String) (r : V → List V → Hp → VK → Prop) : Prop :=
  ∀ (pins : List (Addr × Obj)) (s : Shared) (σ : St) (H : Hp) (x : V) (xs : List V) (v : Value) (us : List Value) (Q : VK), Inv X pins σ H s → RelV x v → Vals xs us → r x xs H Q →
    wpAny (model X.prog X.w) X.A (call (.builtin id) (v :: us)) (EP X pins σ Q) X.xe s

/-! ### lists of values -/
theorem Vals.one {x : V} {us : List Value} (h : Vals [x] us) : ∃ u, us = [u] ∧ RelV x u := by
  cases h with
  | cons r t => cases t; exact ⟨_, rfl, r⟩
theorem Vals.two {x y : V} {us : List Value} (h : Vals [x, y] us) : ∃ u v, us = [u, v] ∧ RelV x u ∧ RelV y v := by
  cases h with
  | cons r t =>
    cases t with
    | cons q t => cases t; exact ⟨_, _, rfl, r, q⟩
theorem Vals.rep {xs : List V} {us : List Value} (h : Vals xs us) : ∀ k : Nat, Vals (List.replicate k xs).flatten (List.replicate k us).flatten
  | 0 => .nil
  | k + 1 => by
    rw [List.replicate_succ, List.replicate_succ, List.flatten_cons, List.flatten_cons]
    exact Vals.append h (Vals.rep h k)
theorem foldl_rep (its : List Value) : ∀ (k : Nat) (acc : List Value),
    List.foldl (fun x1 x2 => x1 ++ x2) acc.toArray (List.replicate k its.toArray) = (acc ++ (List.replicate k its).flatten).toArray
  | 0, acc => by simp
  | k + 1, acc => by
    have e : acc.toArray ++ its.toArray = (acc ++ its).toArray := by simp
    have e2 : (acc ++ its) ++ (List.replicate k its).flatten = acc ++ (List.replicate (k + 1) its).flatten := by
      rw [List.replicate_succ, List.flatten_cons, List.append_assoc]
    rw [← e2, ← foldl_rep its k (acc ++ its), ← e, List.replicate_succ, List.foldl_cons]

section
variable {X : Cx} {pins : List (Addr × Obj)} {σ : St} {H : Hp} {s : Shared} {l b : Addr} {xs ys zs : List V}

/-! ### the two steps: a tracked list is rewritten, a new list is laid -/
theorem Inv.lset {its its' : List Value} {n : Nat} {f : Array Value → Array Value} {t' : Nat} (I : Inv X pins σ H s) (hH : H l = some (.lst xs))
    (e : s.heap.get? l = some { cls := .type "list", data := .seq its.toArray n }) (hf : f its.toArray = its'.toArray) (hv : Vals ys its') (hz : ys.length ≤ sizeLine) :
    Inv X pins σ (upd H l (.lst ys)) { s with heap := s.heap.update l (Obj.mapSeq f), toks := t' } := by
  have q := PySem.IsL.update e f
  rw [hf] at q
  refine I.write (x := l) (e := l) (by rw [hH]; exact trivial) (.inl rfl) (fun b' u hb hu => (Heap.get?_update_other s.heap (Obj.mapSeq f) (Ne.symm hb)).trans hu) ⟨_, q⟩ ?_
  exact ⟨hz, its', _, hv, q⟩
theorem Inv.lnew {its : List Value} {t' : Nat} (I : Inv X pins σ H s) (hv : Vals ys its) (hz : ys.length ≤ sizeLine) :
    Inv X pins σ (upd H s.heap.objs.size (.lst ys)) { s with heap := s.heap.push { cls := .type "list", data := .seq its.toArray }, toks := t' } :=
  I.laid (fun _ _ q => Heap.get?_push_of_some _ q) (Nat.le_refl _) ⟨hz, its, 0, hv, Heap.get?_push_size _ rfl⟩
theorem Inv.fresh (I : Inv X pins σ H s) : H s.heap.objs.size = none := I.hok.fresh (Nat.le_refl _)
theorem Inv.lstM (I : Inv X pins σ H s) (hH : H l = some (.lst xs)) : xs.length ≤ sizeLine ∧ ∃ (its : List Value) (n : Nat), Vals xs its ∧ xs.length = its.length ∧ s.heap.get? l = some { cls := .type "list", data := .seq its.toArray n } := by
  obtain ⟨z, its, n, r, e⟩ := I.hok l _ hH
  exact ⟨z, its, n, r, r.length, e⟩

theorem notLongL {n : Nat} (h : n ≤ sizeLine) : Builtin.List.listTooLong n = false := by
  unfold Builtin.List.listTooLong
  exact decide_eq_false (by omega)
end

section
variable {X : Cx}

/-! ### methods -/
def rAppend : V → List V → Hp → VK → Prop := fun x vs H Q => ∃ l xs y, x = .ref l ∧ vs = [y] ∧ H l = some (.lst xs) ∧ xs.length < sizeLine ∧ Q .non (upd H l (.lst (xs ++ [y])))
theorem mt_append : MtM X "list.append" rAppend := by
  intro pins s σ H x vs v us Q I rx rv h
  obtain ⟨l, xs, y, rfl, rfl, hH, hz, q⟩ := h
  cases rx
  obtain ⟨u, rfl, ru⟩ := rv.one
  obtain ⟨z, its, n, r, hl, e⟩ := I.lstM hH
  refine call_meets F.slot_list_append ⟨_, e, rfl⟩ F.entry_list_append (F.args_list_append_2 _ _) (PySem.list_append l its.toArray n u (by rw [List.size_toArray]; omega)) ⟨e, ?_⟩
  refine ⟨.non, _, I.lset (its' := its ++ [u]) hH e (by simp) (r.append (.cons ru .nil)) ?_, rfl, q⟩
  rw [List.length_append, List.length_singleton]
  omega

/-! ### list + list, list += list, list * int -/
def rCat : R2 := fun x y H Q => ∃ l b xs zs, x = .ref l ∧ y = .ref b ∧ H l = some (.lst xs) ∧ H b = some (.lst zs) ∧ xs.length + zs.length ≤ sizeLine ∧ ∀ p, H p = none → Q (.ref p) (upd H p (.lst (xs ++ zs)))
theorem op_cat : OpR X (binaryOp .Add) rCat := by
  intro pins s σ H x y v u Q I rx ry h
  obtain ⟨l, b, xs, zs, rfl, rfl, hH, hB, hz, q⟩ := h
  cases rx
  cases ry
  obtain ⟨z, its, n, r, hl, e⟩ := I.lstM hH
  obtain ⟨z2, its2, n2, r2, hl2, e2⟩ := I.lstM hB
  refine PySem.P.add_list e e2 ?_ (by rw [List.size_toArray, List.size_toArray]; omega)
  have ea : its.toArray ++ its2.toArray = (its ++ its2).toArray := by simp
  rw [ea]
  exact ⟨.ref _, _, I.lnew (t' := s.toks) (r.append r2) (by rw [List.length_append]; omega), rfl, q _ I.fresh⟩
/-- a list times an int (a negative one is nothing) -/
def rRep : R2 := fun x y H Q => ∃ l k xs, x = .ref l ∧ y = .int k ∧ H l = some (.lst xs) ∧ -(2 ^ 63) ≤ k ∧ k < 2 ^ 63 ∧ xs.length * k.toNat ≤ sizeLine ∧
  ∀ p, H p = none → Q (.ref p) (upd H p (.lst (List.replicate k.toNat xs).flatten))
theorem len_rep {α : Type} (xs : List α) (k : Nat) : (List.replicate k xs).flatten.length = k * xs.length := by
  induction k with
  | zero => simp
  | succ k ih => rw [List.replicate_succ, List.flatten_cons, List.length_append, ih, Nat.succ_mul, Nat.add_comm]
theorem op_rep : OpR X (binaryOp .Mult) rRep := by
  intro pins s σ H x y v u Q I rx ry h
  obtain ⟨l, k, xs, rfl, rfl, hH, h1, h2, hz, q⟩ := h
  cases rx
  obtain ⟨t, rfl⟩ := ry
  obtain ⟨z, its, n, r, hl, e⟩ := I.lstM hH
  have hlen : its.toArray.size * k.toNat ≤ sizeLine := by rw [List.size_toArray, ← hl]; exact hz
  have hcap : ¬ its.toArray.size * k.toNat > (2 ^ 63 - 1) / 8 := by
    have : (sizeLine : Nat) ≤ (2 ^ 63 - 1) / 8 := by decide
    omega
  have hfit : ¬ (!Builtin.List.listFitsIndex k) = true := by
    rw [fitsIndex_both h1 h2]
    exact Bool.false_ne_true
  have hlong : ¬ Builtin.List.listTooLong (its.toArray.size * k.toNat) = true := by
    rw [notLongL hlen]
    exact Bool.false_ne_true
  have hnew : List.foldl (fun x1 x2 => x1 ++ x2) #[] (List.replicate (if its.toArray.isEmpty = true then 0 else k.toNat) its.toArray) = (List.replicate k.toNat its).flatten.toArray := by
    have f0 : ∀ m : Nat, List.foldl (fun x1 x2 => x1 ++ x2) #[] (List.replicate m its.toArray) = (List.replicate m its).flatten.toArray := fun m => by
      have := foldl_rep its m []
      rw [List.nil_append] at this
      exact this
    rw [f0]
    cases its with
    | nil => simp
    | cons a r' => rw [if_neg (by simp)]
  refine wpAny_binaryOp_repeat_ref (T := "list") (U := "int") (by decide) ⟨_, e, rfl⟩ (fun s' => typeIs_int s' k t) noFill_list_mul F.fills_int_mul F.slot_int_rmul repeat_list F.slot_int_index.lookup
    (call_meets F.slot_int_rmul (typeIs_int s k t) F.entry_int_rmul (F.args_int_rmul_2 _ _) (int___rmul___int_list k t l its.toArray n)
      ⟨e, rfl, ⟨_, e, rfl⟩, call_meets F.slot_list_mul ⟨_, e, rfl⟩ F.entry_list_mul (F.args_list_mul_2 _ _) (AutoListH.list___mul___list_int_3 l its.toArray n k t hfit hcap hlong) ⟨e, ?_⟩⟩)
  rw [hnew]
  exact ⟨.ref _, _, I.lnew (t' := s.toks) (r.rep k.toNat) (by rw [len_rep, Nat.mul_comm]; exact hz), rfl, q _ I.fresh⟩

/-! ### del xs[i] -/
end

/-! ### xs[a:b] = ys -/
section
variable {prog : Program} {w : World} {A : Around} {E : Value → Shared → Prop} {s : Shared}
end

section
variable {X : Cx}
end
end L2

namespace L2
open PySem PySem.Spec PyProof.Rows

/-! ### lists of pairs as tables -/
section
variable {κ : Type} [DecidableEq κ]
def valV (kvs : List (κ × V)) (k : κ) : Option V := (kvs.find? fun kv => decide (kv.1 = k)).map (·.2)
/-- in its place, or at the end -/
def putK (kvs : List (κ × V)) (k : κ) (v : V) : List (κ × V) :=
  if (kvs.any fun kv => decide (kv.1 = k)) = true then kvs.map (fun kv => if kv.1 = k then (kv.1, v) else kv) else kvs ++ [(k, v)]
theorem valV_pos {p : κ × V} {r : List (κ × V)} {k : κ} (e : p.1 = k) : valV (p :: r) k = some p.2 := by simp [valV, List.find?_cons, e]
theorem valV_neg {p : κ × V} {r : List (κ × V)} {k : κ} (e : ¬ p.1 = k) : valV (p :: r) k = valV r k := by simp [valV, List.find?_cons, e]
theorem valV_any (k : κ) : ∀ kvs : List (κ × V), (kvs.any fun kv => decide (kv.1 = k)) = (valV kvs k).isSome
  | [] => rfl
  | p :: r => by
    rw [List.any_cons]
    by_cases e : p.1 = k
    · simp only [valV_pos e, decide_eq_true e, Bool.true_or, Option.isSome_some]
    · rw [valV_neg e, decide_eq_false e, Bool.false_or]; exact valV_any k r
theorem valV_map (k j : κ) (y : V) : ∀ kvs : List (κ × V), valV (kvs.map fun kv => if kv.1 = k then (kv.1, y) else kv) j = (valV kvs j).map fun x => if j = k then y else x
  | [] => rfl
  | p :: r => by
    have ih := valV_map k j y r
    rw [List.map_cons]
    by_cases h : p.1 = k
    · rw [if_pos h]
      by_cases e : p.1 = j
      · rw [valV_pos (p := (p.1, y)) e, valV_pos e, Option.map_some, if_pos (e.symm.trans h)]
      · rw [valV_neg (p := (p.1, y)) e, valV_neg e, ih]
    · rw [if_neg h]
      by_cases e : p.1 = j
      · rw [valV_pos (p := p) e, valV_pos e, Option.map_some, if_neg (fun z => h (e.trans z))]
      · rw [valV_neg (p := p) e, valV_neg e, ih]
theorem valV_snoc (k j : κ) (y : V) : ∀ kvs : List (κ × V), valV kvs k = none → valV (kvs ++ [(k, y)]) j = if j = k then some y else valV kvs j
  | [], _ => by
    by_cases e : k = j
    · rw [if_pos e.symm]; exact valV_pos (p := (k, y)) e
    · rw [if_neg (fun z => e z.symm)]; exact valV_neg (p := (k, y)) e
  | p :: r, hn => by
    rw [List.cons_append]
    have hk : ¬ p.1 = k := fun z => by rw [valV_pos z] at hn; cases hn
    rw [valV_neg hk] at hn
    have ih := valV_snoc k j y r hn
    by_cases e : p.1 = j
    · rw [valV_pos e, valV_pos e, if_neg (fun z => hk (e.trans z))]
    · rw [valV_neg e, valV_neg e, ih]
theorem valV_put (kvs : List (κ × V)) (k j : κ) (y : V) : valV (putK kvs k y) j = if j = k then some y else valV kvs j := by
  unfold putK
  by_cases a : (kvs.any fun kv => decide (kv.1 = k)) = true
  · rw [if_pos a, valV_map]
    rw [valV_any] at a
    by_cases e : j = k
    · obtain ⟨x, hx⟩ := Option.isSome_iff_exists.mp a
      rw [if_pos e, e, hx, Option.map_some, if_pos rfl]
    · rw [if_neg e]
      cases valV kvs j with
      | none => rfl
      | some x => rw [Option.map_some, if_neg e]
  · rw [if_neg a]
    refine valV_snoc k j y kvs ?_
    rw [valV_any] at a
    cases q : valV kvs k with
    | none => rfl
    | some x => rw [q] at a; exact (a rfl).elim
theorem length_putK (kvs : List (κ × V)) (k : κ) (v : V) : (putK kvs k v).length ≤ kvs.length + 1 := by
  unfold putK
  split
  · rw [List.length_map]; omega
  · rw [List.length_append, List.length_cons, List.length_nil]; omega
theorem RelO.isSome_eq {o : Option V} {u : Option Value} (r : RelO o u) : o.isSome = u.isSome := by
  cases o with
  | none => cases u with
    | none => rfl
    | some _ => exact (show False from r).elim
  | some _ => cases u with
    | none => exact (show False from r).elim
    | some _ => rfl
theorem RelO.getD {o : Option V} {u : Option Value} {d : V} {d' : Value} (r : RelO o u) (rd : RelV d d') : RelV (o.getD d) (u.getD d') := by
  cases o with
  | none => cases u with
    | none => exact rd
    | some _ => exact (show False from r).elim
  | some _ => cases u with
    | none => exact (show False from r).elim
    | some _ => exact r

/-- raw tables of the same keys -/
theorem KV.val {kvs : List (κ × V)} {vs : List (κ × Value)} (r : KV kvs vs) (k : κ) : RelO (valV kvs k) (valueAt vs k) := by
  unfold KV at r
  induction r with
  | nil => exact True.intro
  | @cons p q ps qs h t ih =>
    obtain ⟨h1, h2⟩ := h
    by_cases e : p.1 = k
    · have e' : q.1 = k := h1.symm.trans e
      have b : valueAt (q :: qs) k = some q.2 := by simp [valueAt, List.find?_cons, e']
      rw [valV_pos e, b]; exact h2
    · have e' : ¬ q.1 = k := fun z => e (h1.trans z)
      have b : valueAt (q :: qs) k = valueAt qs k := by simp [valueAt, List.find?_cons, e']
      rw [valV_neg e, b]; exact ih
theorem KV.any {kvs : List (κ × V)} {vs : List (κ × Value)} (r : KV kvs vs) (k : κ) : (kvs.any fun kv => decide (kv.1 = k)) = vs.any fun kv => decide (kv.1 = k) := by
  unfold KV at r
  induction r with
  | nil => rfl
  | cons h t ih => rw [List.any_cons, List.any_cons, ih, h.1]
theorem KV.repl {kvs : List (κ × V)} {vs : List (κ × Value)} (r : KV kvs vs) (k : κ) {y : V} {u : Value} (ry : RelV y u) :
    KV (kvs.map fun kv => if kv.1 = k then (kv.1, y) else kv) (vs.map fun kv => if kv.1 = k then (kv.1, u) else kv) := by
  unfold KV at r ⊢
  induction r with
  | nil => exact .nil
  | @cons p q ps qs h t ih =>
    rw [List.map_cons, List.map_cons]
    refine .cons ?_ ih
    obtain ⟨h1, h2⟩ := h
    by_cases e : p.1 = k
    · rw [if_pos e, if_pos (h1.symm.trans e)]; exact ⟨h1, ry⟩
    · rw [if_neg e, if_neg (fun z => e (h1.trans z))]; exact ⟨h1, h2⟩
theorem KV.put {kvs : List (κ × V)} {vs : List (κ × Value)} (r : KV kvs vs) (k : κ) {y : V} {u : Value} (ry : RelV y u) : KV (putK kvs k y) (stored vs k u) := by
  unfold putK stored
  rw [r.any k]
  by_cases e : (vs.any fun kv => decide (kv.1 = k)) = true
  · rw [if_pos e, if_pos e]; exact r.repl k ry
  · rw [if_neg e, if_neg e]; exact Paired.snoc r ⟨rfl, ry⟩
theorem KV.length {kvs : List (κ × V)} {vs : List (κ × Value)} (r : KV kvs vs) : kvs.length = vs.length := Paired.length r
end


/-! ### a tracked dict, its keys ints and texts or tuples of these -/
theorem kV_is {P : Program} {w : World} {k : Key} {u : Value} (r : RelV (kV k) u) : (mixKind P w).is k u = true := by
  cases k with
  | inl i => obtain ⟨t, e⟩ := (show ∃ t, u = Value.int i t from r); subst e; exact mixKind_int P w i t
  | inr x => obtain ⟨t, e⟩ := (show ∃ t, u = Value.str x t from r); subst e; exact mixKind_str P w x t
theorem items_are {P : Program} {w : World} : ∀ {ks : List Key} {us : List Value}, Vals (ks.map kV) us → ItemsAre (mixKind P w) ks us
  | [], _, r => by rw [List.map_nil] at r; cases r; exact .nil
  | k :: ks, _, r => by
    rw [List.map_cons] at r
    cases r with
    | cons h t => exact .cons (kV_is h) (items_are t)

/-- raw entries of a dict with tuple keys -/
abbrev KT (H : Hp) : List (List Key × V) → List (List Key × Addr × Value) → Prop := Paired fun p q => p.1 = q.1 ∧ H q.2.1 = some (.tup (p.1.map kV)) ∧ RelV p.2 q.2.2
theorem KT.val {H : Hp} {kvs : List (List Key × V)} {xs : List (List Key × Addr × Value)} (r : KT H kvs xs) (k : List Key) : RelO (valV kvs k) ((atKey xs k).map (·.2)) := by
  induction r with
  | nil => exact True.intro
  | @cons p q ps qs h t ih =>
    obtain ⟨h1, _, h2⟩ := h
    by_cases e : p.1 = k
    · have e' : q.1 = k := h1.symm.trans e
      have b : atKey (q :: qs) k = some q.2 := by simp [atKey, List.find?_cons, e']
      rw [valV_pos e, b]; exact h2
    · have e' : ¬ q.1 = k := fun z => e (h1.trans z)
      have b : atKey (q :: qs) k = atKey qs k := by simp [atKey, List.find?_cons, e']
      rw [valV_neg e, b]; exact ih
theorem KT.repl {H : Hp} {kvs : List (List Key × V)} {xs : List (List Key × Addr × Value)} (r : KT H kvs xs) (k : List Key) {y : V} {u : Value} (ry : RelV y u) :
    KT H (kvs.map fun kv => if kv.1 = k then (kv.1, y) else kv) (xs.map (putAt k u)) := by
  induction r with
  | nil => exact .nil
  | @cons p q ps qs h t ih =>
    rw [List.map_cons, List.map_cons]
    refine .cons ?_ ih
    obtain ⟨h1, h2, h3⟩ := h
    unfold putAt
    by_cases e : p.1 = k
    · rw [if_pos e, if_pos (h1.symm.trans e)]; exact ⟨h1, h2, ry⟩
    · rw [if_neg e, if_neg (fun z => e (h1.trans z))]; exact ⟨h1, h2, h3⟩
theorem KT.put {H : Hp} {kvs : List (List Key × V)} {xs : List (List Key × Addr × Value)} (r : KT H kvs xs) (k : List Key) {b : Addr} {y : V} {u : Value} (hb : H b = some (.tup (k.map kV))) (ry : RelV y u) :
    KT H (putK kvs k y) (storedH xs k b u) := by
  have e : (kvs.any fun kv => decide (kv.1 = k)) = (atKey xs k).isSome := by
    rw [valV_any, (r.val k).isSome_eq, Option.isSome_map]
  unfold putK storedH
  rw [e]
  by_cases q : (atKey xs k).isSome = true
  · rw [if_pos q, if_pos q]; exact r.repl k ry
  · rw [if_neg q, if_neg q]; exact Paired.snoc r ⟨rfl, hb, ry⟩
theorem KT.keeps {H H' : Hp} {kvs : List (List Key × V)} {xs : List (List Key × Addr × Value)} (r : KT H kvs xs) (ht : ∀ b ys, H b = some (.tup ys) → H' b = some (.tup ys)) : KT H' kvs xs :=
  Paired.mapP r fun _ _ z => ⟨z.1, ht _ _ z.2.1, z.2.2⟩

section
variable {P : Program} {w : World} {H : Hp} {h : Heap} {a : Addr}
theorem rd_of {u : HO} (ok : HOk P w H h) (e : Rd H a u) : ObjOk P w H h a u := e.ok ok
theorem dk_rd {kvs : List (Key × V)} (ok : HOk P w H h) (e : Rd H a (.dK kvs)) : kvs.length ≤ sizeLine ∧ (a == sysModules) = false ∧ ∃ vs, KV kvs vs ∧ h.DictOf (mixKind P w) a vs :=
  show ObjOk P w H h a (.dK kvs) from rd_of ok e
theorem dk_of {kvs : List (Key × V)} (ok : HOk P w H h) (e : H a = some (.dK kvs)) : kvs.length ≤ sizeLine ∧ (a == sysModules) = false ∧ ∃ vs, KV kvs vs ∧ h.DictOf (mixKind P w) a vs := dk_rd ok (.inl e)
/-- a tracked tuple of ints and texts is a key -/
theorem key_of {ks : List Key} (ok : HOk P w H h) (e : H a = some (.tup (ks.map kV))) : (tupleKind (mixKind P w)).is h ks a := by
  obtain ⟨_, its, r, o, h1, h2, n, h3⟩ := (show ObjOk P w H h a (.tup (ks.map kV)) from ok a _ e)
  exact ⟨o, its.toArray, n, h1, h2, h3, by simpa using items_are r⟩
theorem dt_rd {kvs : List (List Key × V)} (ok : HOk P w H h) (e : Rd H a (.dT kvs)) : kvs.length ≤ sizeLine ∧ (a == sysModules) = false ∧
    ∃ xs, KT H kvs xs ∧ h.DictOfH (tupleKind (mixKind P w)) a xs := by
  obtain ⟨z, y, xs, r, o, es, ep, h1, h2, h3, h4, h5⟩ := (show ObjOk P w H h a (.dT kvs) from rd_of ok e)
  refine ⟨z, y, xs, r, o, es, ep, h1, h2, h3, h4, fun x hx => ?_, h5⟩
  have all : ∀ {l : List (List Key × V)} {m : List (List Key × Addr × Value)}, KT H l m → ∀ x ∈ m, (tupleKind (mixKind P w)).is h x.1 x.2.1 := by
    intro l m q
    induction q with
    | nil => intro x hx; exact nomatch hx
    | @cons p q ps qs hq t ih =>
      intro x hx
      rcases List.mem_cons.mp hx with e | hx
      · subst e
        exact key_of ok (by rw [← hq.1]; exact hq.2.1)
      · exact ih x hx
  exact all r x hx
theorem dt_of {kvs : List (List Key × V)} (ok : HOk P w H h) (e : H a = some (.dT kvs)) : kvs.length ≤ sizeLine ∧ (a == sysModules) = false ∧
    ∃ xs, KT H kvs xs ∧ h.DictOfH (tupleKind (mixKind P w)) a xs := dt_rd ok (.inl e)
end

/-- what the dict at a holds at the key y -/
def DGet (H : Hp) (a : Addr) (y : V) (r : Option V) : Prop :=
  (∃ kvs k, Rd H a (.dK kvs) ∧ y = kV k ∧ r = valV kvs k) ∨ ∃ kvs k b, Rd H a (.dT kvs) ∧ y = .ref b ∧ H b = some (.tup (k.map kV)) ∧ r = valV kvs k
/-- the heap behind a[y] = v -/
def DPut (H : Hp) (a : Addr) (y v : V) (H' : Hp) : Prop :=
  (∃ kvs k, H a = some (.dK kvs) ∧ y = kV k ∧ kvs.length < sizeLine ∧ H' = upd H a (.dK (putK kvs k v))) ∨
  ∃ kvs k b, H a = some (.dT kvs) ∧ y = .ref b ∧ H b = some (.tup (k.map kV)) ∧ kvs.length < sizeLine ∧ H' = upd H a (.dT (putK kvs k v))
theorem DGet.k {H : Hp} {a : Addr} {kvs : List (Key × V)} {k : Key} (e : H a = some (.dK kvs)) : DGet H a (kV k) (valV kvs k) := .inl ⟨kvs, k, .inl e, rfl, rfl⟩
theorem DGet.t {H : Hp} {a b : Addr} {kvs : List (List Key × V)} {k : List Key} (e : H a = some (.dT kvs)) (eb : H b = some (.tup (k.map kV))) : DGet H a (.ref b) (valV kvs k) := .inr ⟨kvs, k, b, .inl e, rfl, eb, rfl⟩
theorem DPut.k {H : Hp} {a : Addr} {kvs : List (Key × V)} {k : Key} {v : V} (e : H a = some (.dK kvs)) (hl : kvs.length < sizeLine) : DPut H a (kV k) v (upd H a (.dK (putK kvs k v))) := .inl ⟨kvs, k, e, rfl, hl, rfl⟩
theorem DPut.t {H : Hp} {a b : Addr} {kvs : List (List Key × V)} {k : List Key} {v : V} (e : H a = some (.dT kvs)) (eb : H b = some (.tup (k.map kV))) (hl : kvs.length < sizeLine) :
    DPut H a (.ref b) v (upd H a (.dT (putK kvs k v))) := .inr ⟨kvs, k, b, e, rfl, eb, hl, rfl⟩


section
variable {X : Cx} {pins : List (Addr × Obj)} {σ : St} {H : Hp} {s : Shared} {a : Addr} {y v : V} {u r : Value} {o : Option V} {A : Around} {E : Value → Shared → Prop}

theorem Inv.big (I : Inv X pins σ H s) : sysModules < s.heap.objs.size := by
  have h : mainGlobals < s.heap.objs.size := (I.mod.glob.keeps I.bk).lt
  exact Nat.lt_trans (by decide) h

/-- d[y], there -/
theorem d_getItem {Q : Value → Shared → Prop} (hu : A.units + 1 < cLine) (I : Inv X pins σ H s) (g : DGet H a y (some v)) (ry : RelV y u) (h : ∀ w' s', Inv X pins σ H s' → RelV v w' → Q w' s') :
    wpAny (model X.prog X.w) A (getItem (.ref a) u) Q E s := by
  rcases g with ⟨kvs, k, e, ey, l⟩ | ⟨kvs, k, b, e, ey, eb, l⟩
  · subst ey
    obtain ⟨z, hd, vs, rel, dd⟩ := dk_rd I.hok e
    obtain ⟨w', hw, rw'⟩ := RelO.some_of (v := v) (o := valueAt vs k) (by rw [l]; exact rel.val k)
    exact wpAny_getItem_of (kV_is ry) dd.mapOf hw (h w' _ (I.tok _) rw')
  · subst ey
    cases (show u = Value.ref b from ry)
    obtain ⟨z, hd, xs, rel, dd⟩ := dt_rd I.hok e
    obtain ⟨w', hw, rw'⟩ := RelO.some_of (v := v) (o := (atKey xs k).map (·.2)) (by rw [l]; exact rel.val k)
    obtain ⟨p, hp, hp2⟩ := Option.map_eq_some_iff.mp hw
    refine wpAny_getItem_heap (tupleKind_room_in1 hu) (key_of I.hok eb) dd hp ?_
    rw [hp2]
    exact h w' _ (I.tok _) rw'
theorem d_notIn {Q : Value → Shared → Prop} (hu : A.units + 1 < cLine) (I : Inv X pins σ H s) (g : DGet H a y o) (ry : RelV y u) (h : ∀ s', Inv X pins σ H s' → Q (.bool (!o.isSome)) s') :
    wpAny (model X.prog X.w) A (compareOp .NotIn u (.ref a)) Q E s := by
  rcases g with ⟨kvs, k, e, ey, l⟩ | ⟨kvs, k, b, e, ey, eb, l⟩
  · subst ey
    obtain ⟨z, hd, vs, rel, dd⟩ := dk_rd I.hok e
    refine wpAny_notIn_of (kV_is ry) hd dd.mapOf ?_
    rw [← (rel.val k).isSome_eq, ← l]
    exact h _ (I.tok _)
  · subst ey
    cases (show u = Value.ref b from ry)
    obtain ⟨z, hd, xs, rel, dd⟩ := dt_rd I.hok e
    refine wpAny_notIn_heap (tupleKind_room_in1 hu) (key_of I.hok eb) hd dd ?_
    have q := (rel.val k).isSome_eq
    rw [Option.isSome_map] at q
    rw [← q, ← l]
    exact h _ (I.tok _)
/-- a dict's object is replaced -/
theorem d_write {h' : Heap} {t' : Nat} {ob : HO} (I : Inv X pins σ H s) (mu : Mut (H a)) (hs : Heap.SameBut a s.heap h') (he : ∃ q, h'.get? a = some q) (new : ObjOk X.prog X.w (upd H a ob) h' a ob) :
    Inv X pins σ (upd H a ob) { s with heap := h', toks := t' } :=
  I.write (x := a) (e := a) mu (.inl rfl) (fun b q hb z => (hs.2 b hb).trans z) he new
theorem dk_new {P : Program} {w : World} {H' : Hp} {h' : Heap} {kvs : List (Key × V)} {vs : List (Key × Value)} (z : kvs.length ≤ sizeLine) (hd : (a == sysModules) = false) (rel : KV kvs vs) (dd : h'.DictOf (mixKind P w) a vs) :
    ObjOk P w H' h' a (.dK kvs) := ⟨z, hd, vs, rel, dd⟩
/-- d[y] = v -/
theorem d_setItem {H' : Hp} {Q : Unit → Shared → Prop} (hu : A.units + 1 < cLine) (I : Inv X pins σ H s) (g : DPut H a y v H') (ry : RelV y u) (rv : RelV v r) (h : ∀ s', Inv X pins σ H' s' → Q () s') :
    wpAny (model X.prog X.w) A (setItem (.ref a) u r) Q E s := by
  rcases g with ⟨kvs, k, e, ey, l, eH⟩ | ⟨kvs, k, b, e, ey, eb, l, eH⟩
  · subst ey eH
    obtain ⟨z, hd, vs, rel, dd⟩ := dk_of I.hok e
    have hz : vs.length ≤ sizeLine := by rw [← rel.length]; exact z
    have hl : (putK kvs k v).length ≤ sizeLine := by have := length_putK kvs k v; omega
    refine wpAny_setItem_pairs (hsz := hz) (kV_is ry) dd fun h' dd' hs => h _ ?_
    have he : ∃ q, h'.get? a = some q := let ⟨q, _, _, hq, _⟩ := dd'; ⟨q, hq⟩
    exact d_write I (by rw [e]; exact True.intro) hs he (dk_new hl hd (rel.put k rv) dd')
  · subst ey eH
    cases (show u = Value.ref b from ry)
    obtain ⟨z, hd, xs, rel, dd⟩ := dt_of I.hok e
    have hz : xs.length ≤ sizeLine := by rw [← Paired.length rel]; exact z
    have hl : (putK kvs k v).length ≤ sizeLine := by have := length_putK kvs k v; omega
    refine wpAny_setItem_heap (hsz := hz) (tupleKind_room_in1 hu) (key_of I.hok eb) dd fun h' dd' hs => h _ ?_
    obtain ⟨q, es, ep, hq, h2, h3, h4, _, h5⟩ := dd'
    refine d_write I (by rw [e]; exact True.intro) hs ⟨q, hq⟩ ⟨hl, hd, _, (rel.put k eb rv).keeps fun c ys ec => ?_, q, es, ep, hq, h2, h3, h4, h5⟩
    rw [upd_ne (ne_of ec e (fun z => nomatch z))]
    exact ec
end

section
variable {X : Cx} {pins : List (Addr × Obj)} {σ : St} {H : Hp} {s : Shared} {a : Addr} {kvs : List (Key × V)} {k : Key} {u : Value} {A : Around} {E : Value → Shared → Prop}
end


/-! ### readings and rules -/
/-- the element of a subscription, not a slice -/
def NoSl (i : Expr) : Prop := ∀ ov iv, subscripted i false ov iv = operate [ov, iv] (getItem ov iv)
theorem subD_of {prog : Program} {w : World} {A : Around} {E : Value → Shared → Prop} {s : Shared} {env : Env} {value slice : Expr} {pos : Pos} {T id : String} {Q : Value → Shared → Prop}
    (hl : typeLookup (.type T) "__getitem__" = pure (some (.builtin id))) (hs : NoSl slice)
    (h : wpAny (model prog w) A (eval value env) (fun o s₁ => wpAny (model prog w) A (eval slice env) (fun i s₂ => s₂.TypeIs o T ∧ wpAny (model prog w) A (getItem o i) Q E s₂) E s₁) E s) :
    wpAny (model prog w) A (eval (.Subscript value slice pos) env) Q E s := by
  refine Subscript_ (wpAny_mono h (fun o s₁ h₁ => wpAny_mono h₁ (fun i s₂ h₂ => ?_) fun _ _ x => x) fun _ _ x => x)
  obtain ⟨hT, h₂⟩ := h₂
  unfold subscriptTail
  refine wpAny_bind ?_
  rw [getitemInPython_of_ne hT.not_modules]
  refine wpAny_bind (wpAny_specialOf hT hl ?_)
  have fin : wpAny (model prog w) A (subscripted slice false o i) (fun r s₃ => wpAny (model prog w) A (letTemporaryGo value o r >>= fun _ => pure r) Q E s₃) E s₂ := by
    rw [hs o i]
    exact wpAny_operating (wpAny_mono h₂ (fun r s₃ h₃ => wpAny_bind (wpAny_letTemporaryGo (wpAny_pure h₃))) fun _ _ x => x)
  first
    | exact wpAny_pure (wpAny_bind fin)
    | exact wpAny_bind (wpAny_pure (wpAny_bind fin))
    | exact wpAny_bind fin

theorem dict_typeIs {X : Cx} {pins : List (Addr × Obj)} {σ : St} {H : Hp} {s : Shared} {a : Addr} {y : V} {o : Option V} (I : Inv X pins σ H s) (g : DGet H a y o) : s.TypeIs (.ref a) "dict" := by
  rcases g with ⟨kvs, k, e, _, _⟩ | ⟨kvs, k, b, e, _, _, _⟩
  · obtain ⟨_, _, vs, _, dd⟩ := dk_rd I.hok e
    exact dd.typeIs
  · obtain ⟨_, _, xs, _, dd⟩ := dt_rd I.hok e
    exact dd.typeIs
/-- d[y] -/
def tDGet (td ty : TE) : TE := fun σ H Q => td σ H fun x H1 => ty σ H1 fun y H2 => ∃ a v, x = .ref a ∧ DGet H2 a y (some v) ∧ Q v H2
def tDNotIn (ty td : TE) : TE := fun σ H Q => ty σ H fun y H1 => td σ H1 fun x H2 => ∃ a o, x = .ref a ∧ DGet H2 a y o ∧ Q (.bl (!o.isSome)) H2
/-- d[y] = v -/
def sDPut (td ty tv : TE) : TS := fun D σ H => tv σ H fun v H1 => td σ H1 fun x H2 => ty σ H2 fun y H3 => ∃ a H4, x = .ref a ∧ DPut H3 a y v H4 ∧ D.nx σ H4
section
variable {X : Cx} {o i e value : Expr} {pos pos' tpos : Pos} {td ty tv : TE}
theorem pe_dget (hu : X.A.units + 1 < cLine) (ho : PE X o td) (hi : PE X i ty) (hs : NoSl i) : PE X (.Subscript o i pos) (tDGet td ty) := by
  intro pins s σ H Q I h
  refine subD_of PySem.F.slot_dict_getitem.lookup hs (thn (ho pins s σ H _ I h) fun u s1 ⟨x, H1, I1, rx, q1⟩ => thn (hi pins s1 σ H1 _ I1 q1) fun iv s2 ⟨y, H2, I2, ry, a, v, ex, g, q2⟩ => ?_)
  subst ex
  obtain rfl : u = Value.ref a := rx
  exact ⟨dict_typeIs I2 g, d_getItem hu I2 g ry fun w' s3 I3 rw' => ⟨v, H2, I3, rw', q2⟩⟩
theorem pc_dnotin (hu : X.A.units + 1 < cLine) (hi : PE X i ty) (ho : PE X o td) : PC X .NotIn i o (tDNotIn ty td) := by
  intro pins s σ H Q I h
  refine thn (hi pins s σ H _ I h) fun iv s1 ⟨y, H1, I1, ry, q1⟩ => thn (ho pins s1 σ H1 _ I1 q1) fun u s2 ⟨x, H2, I2, rx, a, ov, ex, g, q2⟩ => ?_
  subst ex
  obtain rfl : u = Value.ref a := rx
  exact d_notIn hu I2 g ry fun s3 I3 => ⟨.bl (!ov.isSome), H2, I3, rfl, q2⟩
theorem ps_dput (hu : X.A.units + 1 < cLine) (ho : PE X o td) (hi : PE X i ty) (hv : PE X value tv) (hs : swapsWith value (some (.Subscript o i pos')) pos.line X.env = pure false) :
    PS X (.Assign [.Subscript o i pos'] value pos) (sDPut td ty tv) := by
  intro pins s σ H D I h
  refine wpAny_Assign_Subscript (thn (hv pins s σ H _ I h) fun r s1 ⟨v, H1, I1, rv, q1⟩ => thn (ho pins s1 σ H1 _ I1 q1) fun u s2 ⟨x, H2, I2, rx, q2⟩ => thn (hi pins s2 σ H2 _ I2 q2) fun iv s3 ⟨y, H3, I3, ry, a, H4, ex, g, q3⟩ => ?_) hs
  subst ex
  obtain rfl : u = Value.ref a := rx
  exact d_setItem hu I3 g ry rv fun s4 I4 => ⟨σ, H4, I4, q3⟩
end


/-! ### displays -/
theorem dk_empty {P : Program} {w : World} {H : Hp} (h : Heap) (hb : sysModules < h.objs.size) : ObjOk P w H (h.push { cls := .type "dict", data := .dict #[] }) h.objs.size (.dK []) :=
  ⟨Nat.zero_le _, beq_eq_false_iff_ne.mpr (Ne.symm (Nat.ne_of_lt hb)), [], .nil, Heap.DictOf.new h⟩
theorem dt_empty {P : Program} {w : World} {H : Hp} (h : Heap) (hb : sysModules < h.objs.size) : ObjOk P w H (h.push { cls := .type "dict", data := .dict #[] }) h.objs.size (.dT []) :=
  ⟨Nat.zero_le _, beq_eq_false_iff_ne.mpr (Ne.symm (Nat.ne_of_lt hb)), [], .nil, _, #[], 0, Heap.get?_push_size _ rfl, ⟨rfl, rfl, rfl⟩, rfl, rfl, List.nodup_nil⟩
/-- {}, to be a dict of the kind that is wanted -/
def tDNewK : TE := fun _ H Q => ∀ p, H p = none → Q (.ref p) (upd H p (.dK []))
def tDNewT : TE := fun _ H Q => ∀ p, H p = none → Q (.ref p) (upd H p (.dT []))
section
variable {X : Cx} {pos : Pos}
theorem pe_dnewK : PE X (.Dict [] [] pos) tDNewK := fun pins s σ H Q I h =>
  wpAny_Dict_empty ⟨.ref s.heap.objs.size, _, I.laid (a := s.heap.objs.size) (o := .dK []) (t' := s.toks) (fun _ _ q => Heap.get?_push_of_some _ q) (Nat.le_refl _) (dk_empty s.heap I.big), rfl, h _ (I.hok.fresh (Nat.le_refl _))⟩
theorem pe_dnewT : PE X (.Dict [] [] pos) tDNewT := fun pins s σ H Q I h =>
  wpAny_Dict_empty ⟨.ref s.heap.objs.size, _, I.laid (a := s.heap.objs.size) (o := .dT []) (t' := s.toks) (fun _ _ q => Heap.get?_push_of_some _ q) (Nat.le_refl _) (dt_empty s.heap I.big), rfl, h _ (I.hok.fresh (Nat.le_refl _))⟩
end

/-! ### methods -/
/-- a method call o.m(e) of a built-in, with one argument: what must be seen of the text -/
structure M1 (X : Cx) (o : Expr) (m : Str) (apos : Pos) (e : Expr) (cpos : Pos) : Prop where
  base : attributeBase o m X.env (eval o X.env) = eval o X.env
  few : ((backTo cpos (starEach [e] X.env)).all (fun x => !x.1) && (backToKw cpos (keywordEach [] X.env)).all (fun x => x.1.isSome)
    && decide (([e] : List Expr).length + ([] : List Keyword).length + (if ([] : List Keyword).isEmpty then 0 else 1) < 30)) = true
  line : (apos.endLine == cpos.line) = true
  trees : backTo cpos (starEach [e] X.env) = [(false, eval e X.env)]
structure M2 (X : Cx) (o : Expr) (m : Str) (apos : Pos) (e f : Expr) (cpos : Pos) : Prop where
  base : attributeBase o m X.env (eval o X.env) = eval o X.env
  few : ((backTo cpos (starEach [e, f] X.env)).all (fun x => !x.1) && (backToKw cpos (keywordEach [] X.env)).all (fun x => x.1.isSome)
    && decide (([e, f] : List Expr).length + ([] : List Keyword).length + (if ([] : List Keyword).isEmpty then 0 else 1) < 30)) = true
  line : (apos.endLine == cpos.line) = true
  trees : backTo cpos (starEach [e, f] X.env) = [(false, eval e X.env), (false, eval f X.env)]

/-- a is a dict, whatever its keys -/
def IsD (H : Hp) (a : Addr) : Prop := (∃ kvs, Rd H a (.dK kvs)) ∨ ∃ kvs, Rd H a (.dT kvs)
theorem isD_at {X : Cx} {pins : List (Addr × Obj)} {σ : St} {H : Hp} {s : Shared} {a : Addr} (I : Inv X pins σ H s) (d : IsD H a) :
    s.TypeIs (.ref a) "dict" ∧ (∀ b, Value.ref a = .ref b → ∃ ob, s.heap.get? b = some ob ∧ ob.dict = none) ∧ (a == sysModules) = false := by
  rcases d with ⟨kvs, e⟩ | ⟨kvs, e⟩
  · obtain ⟨_, hd, vs, _, dd⟩ := dk_rd I.hok e
    refine ⟨dd.typeIs, fun b q => ?_, hd⟩
    cases q
    obtain ⟨ob, _, _, h1, h2, _⟩ := dd
    exact ⟨ob, h1, h2.2.1⟩
  · obtain ⟨_, hd, xs, _, dd⟩ := dt_rd I.hok e
    refine ⟨dd.typeIs, fun b q => ?_, hd⟩
    cases q
    obtain ⟨ob, _, _, h1, h2, _⟩ := dd
    exact ⟨ob, h1, h2.2.1⟩

section
variable {X : Cx} {pins : List (Addr × Obj)} {σ : St} {H : Hp} {s : Shared} {a : Addr} {y d : V} {u r : Value} {o : Option V} {A : Around} {E : Value → Shared → Prop}
/-- d.get(y) -/
theorem d_get1 {Q : Value → Shared → Prop} (hu : A.units + 1 < cLine) (I : Inv X pins σ H s) (g : DGet H a y o) (ry : RelV y u) (h : ∀ w' s', Inv X pins σ H s' → RelV (o.getD .non) w' → Q w' s') :
    wpAny (model X.prog X.w) A (call (.builtin "dict.get") [.ref a, u]) Q E s := by
  rcases g with ⟨kvs, k, e, ey, l⟩ | ⟨kvs, k, b, e, ey, eb, l⟩
  · subst ey
    obtain ⟨z, hd, vs, rel, dd⟩ := dk_rd I.hok e
    refine call_meetsIn PySem.F.slot_dict_get dd.typeIs PySem.F.entry_dict_get (PySem.F.args_dict_get_2 _ _) (meets_dict_get (mixKind X.prog X.w) a (kV_is ry) hd) ⟨_, dd.mapOf, h _ _ (I.tok _) ?_⟩
    rw [l]
    exact (rel.val k).getD rfl
  · subst ey
    cases (show u = Value.ref b from ry)
    obtain ⟨z, hd, xs, rel, dd⟩ := dt_rd I.hok e
    refine call_meetsIn PySem.F.slot_dict_get dd.typeIs PySem.F.entry_dict_get (PySem.F.args_dict_get_2 _ _) (meetsH_dict_get (tupleKind (mixKind X.prog X.w)) a b hd) ⟨tupleKind_room_in1 hu, k, xs, key_of I.hok eb, dd, h _ _ (I.tok _) ?_⟩
    rw [l]
    exact (rel.val k).getD rfl
/-- d.get(y, x) -/
theorem d_get2 {Q : Value → Shared → Prop} (hu : A.units + 1 < cLine) (I : Inv X pins σ H s) (g : DGet H a y o) (ry : RelV y u) (rd : RelV d r) (h : ∀ w' s', Inv X pins σ H s' → RelV (o.getD d) w' → Q w' s') :
    wpAny (model X.prog X.w) A (call (.builtin "dict.get") [.ref a, u, r]) Q E s := by
  rcases g with ⟨kvs, k, e, ey, l⟩ | ⟨kvs, k, b, e, ey, eb, l⟩
  · subst ey
    obtain ⟨z, hd, vs, rel, dd⟩ := dk_rd I.hok e
    refine call_meetsIn PySem.F.slot_dict_get dd.typeIs PySem.F.entry_dict_get (PySem.F.args_dict_get_3 _ _ _) (meets_dict_get_default (mixKind X.prog X.w) a (kV_is ry) hd r) ⟨_, dd.mapOf, h _ _ (I.tok _) ?_⟩
    rw [l]
    exact (rel.val k).getD rd
  · subst ey
    cases (show u = Value.ref b from ry)
    obtain ⟨z, hd, xs, rel, dd⟩ := dt_rd I.hok e
    refine call_meetsIn PySem.F.slot_dict_get dd.typeIs PySem.F.entry_dict_get (PySem.F.args_dict_get_3 _ _ _) (meetsH_dict_get_default (tupleKind (mixKind X.prog X.w)) a b hd r) ⟨tupleKind_room_in1 hu, k, xs, key_of I.hok eb, dd, h _ _ (I.tok _) ?_⟩
    rw [l]
    exact (rel.val k).getD rd
end

def tDGet1 (td ty : TE) : TE := fun σ H Q => td σ H fun x H1 => ∃ a, x = .ref a ∧ IsD H1 a ∧ ty σ H1 fun y H2 => ∃ o, DGet H2 a y o ∧ Q (o.getD .non) H2
def tDGet2 (td ty tx : TE) : TE := fun σ H Q => td σ H fun x H1 => ∃ a, x = .ref a ∧ IsD H1 a ∧ ty σ H1 fun y H2 => tx σ H2 fun z H3 => ∃ o, DGet H3 a y o ∧ Q (o.getD z) H3
section
variable {X : Cx} {o e f : Expr} {apos cpos : Pos} {td ty tx : TE}
theorem pe_dget1 (hu : X.A.units + 1 < cLine) (ho : PE X o td) (he : PE X e ty) (m : M1 X o "get" apos e cpos) : PE X (.Call (.Attribute o "get" apos) [e] [] cpos) (tDGet1 td ty) := by
  intro pins s σ H Q I h
  refine wpAny_Call_method m.base m.few m.line PySem.F.plainAttrs_dict PySem.F.slot_dict_get PySem.F.type_dict_get (thn (ho pins s σ H _ I h) fun u s1 ⟨x, H1, I1, rx, a, ex, d, q1⟩ => ?_)
  subst ex
  obtain rfl : u = Value.ref a := rx
  obtain ⟨t1, t2, _⟩ := isD_at I1 d
  refine ⟨t1, t2, ?_⟩
  rw [m.trees]
  refine Calls.callWith_builtin rfl (Calls.evalArgs_plain (Calls.spliced_cons (thn (he pins s1 σ H1 _ I1 q1) fun iv s2 ⟨y, H2, I2, ry, ov, g, q2⟩ => Calls.spliced_nil ?_)))
  exact d_get1 hu I2 g ry fun w' s3 I3 rw' => ⟨_, H2, I3, rw', q2⟩
theorem pe_dget2 (hu : X.A.units + 1 < cLine) (ho : PE X o td) (he : PE X e ty) (hf : PE X f tx) (m : M2 X o "get" apos e f cpos) : PE X (.Call (.Attribute o "get" apos) [e, f] [] cpos) (tDGet2 td ty tx) := by
  intro pins s σ H Q I h
  refine wpAny_Call_method m.base m.few m.line PySem.F.plainAttrs_dict PySem.F.slot_dict_get PySem.F.type_dict_get (thn (ho pins s σ H _ I h) fun u s1 ⟨x, H1, I1, rx, a, ex, d, q1⟩ => ?_)
  subst ex
  obtain rfl : u = Value.ref a := rx
  obtain ⟨t1, t2, _⟩ := isD_at I1 d
  refine ⟨t1, t2, ?_⟩
  rw [m.trees]
  refine Calls.callWith_builtin rfl (Calls.evalArgs_plain (Calls.spliced_cons (thn (he pins s1 σ H1 _ I1 q1) fun iv s2 ⟨y, H2, I2, ry, q2⟩ =>
    Calls.spliced_cons (thn (hf pins s2 σ H2 _ I2 q2) fun fv s3 ⟨z, H3, I3, rz, ov, g, q3⟩ => Calls.spliced_nil ?_))))
  exact d_get2 hu I3 g ry rz fun w' s4 I4 rw' => ⟨_, H3, I4, rw', q3⟩
end

/-! ### dict(d): a copy -/
section
variable {X : Cx} {pins : List (Addr × Obj)} {σ : St} {H : Hp} {s : Shared} {a : Addr} {kvs : List (Key × V)} {A : Around} {E : Value → Shared → Prop}
end


section
variable {X : Cx} {pins : List (Addr × Obj)} {σ : St} {H : Hp} {s : Shared} {a : Addr} {y : V} {u : Value} {A : Around} {E : Value → Shared → Prop}
end
end L2

namespace Att
open PySem PySem.W PySem.Calls PyProof.Rows

/-! ### the script -/
theorem ints_of_wellAll {P : Params} {h : Heap} : ∀ (ns : List Int) (vs : List Value), WellAll P h vs (ns.map WData.int) → IntsAre vs ns := by
  intro ns
  induction ns with
  | nil =>
    intro vs w
    rw [List.map_nil] at w
    cases w
    exact .nil
  | cons n ns ih =>
    intro vs w
    rw [List.map_cons] at w
    cases w with
    | cons a b =>
      cases a
      exact .cons _ _ (ih _ b)

theorem script_of {l : OpenLaw} {n : Nat} (hn : l.most = some n) {P : Params} {h : Heap} {args : List WData} {vals : List Value}
    (hpre : l.row.toRowW.claim.pre args = true) (hwl : WellAll P h vals args) :
    ∃ a vs ns, vals = [Value.ref a] ∧ args = [WData.list (ns.map WData.int)] ∧ h.get? a = some { cls := .type "list", data := .seq vs.toArray } ∧ IntsAre vs ns ∧ ns.length ≤ n := by
  have hsh : WShape.hasAll [] args [.list .int] = true := (pre_splitW hpre).1
  have hc : l.pre.holds [] { args := args } = true := (pre_splitW hpre).2
  obtain ⟨d, r, rfl, h1, h2⟩ := hasAllW_cons hsh
  obtain rfl := hasAllW_nil h2
  obtain ⟨xs, rfl, h3⟩ := hasW_list h1
  obtain ⟨ns, rfl⟩ := items_int h3
  have hlen : ns.length ≤ n := by
    unfold OpenLaw.pre at hc
    have h4 : (WTm.not (.lt (.lit (.int (n : Int))) (.len (.arg 0)))).holds [] { args := [.list (ns.map .int)] } = true := by
      have h4 := (holds_andW hc).1
      rw [hn] at h4
      exact h4
    have h5 := condW_of h4 (w_not (w_lt w_lit (w_len_list (w_arg rfl))))
    rw [List.length_map] at h5
    refine Nat.le_of_not_lt fun q => ?_
    have q' : (n : Int) < ((ns.length : Nat) : Int) := by omega
    first
      | (rw [decide_eq_true q'] at h5; exact absurd h5 (by decide))
      | (simp at h5; omega)
  cases hwl with
  | cons w1 w2 =>
    cases w2
    cases w1 with
    | list ho hall => exact ⟨_, _, ns, rfl, rfl, ho, ints_of_wellAll ns _ hall, hlen⟩

theorem post_true (l : OpenLaw) (args : List WData) : l.row.toRowW.claim.post args (.bool true) args = true :=
  postW_of (r := l.row.toRowW) (X := (true == true))
    (show WShape.has [] (.bool true) .bool = true by first | rfl | decide | simp [WShape.has, WShape.arms, WShape.armsAll])
    (show (WTm.eq .res (.lit (.bool true))).value [] { args := args, res := some (.bool true), after := args } = some (.bool (true == true)) from w_eq_bool (w_res rfl) w_lit) rfl

/-! ### the attachment: holds_open's last premise (the goal 'hc' behind k_head) from a wpAny of the law's body -/
/-- the same from a codeAny of the CALL (for a layer whose function contracts speak of calls) -/
theorem attach_call {l : OpenLaw} {n : Nat} {q : Program} {loose : List Str} {XP : (Str → Option Value) → Heap → Prop} {YP : World → Heap → Prop} {d : DefRec}
    (hn : l.most = some n) (hdf : d.params.defaults = [])
    (call : ∀ (w : World) (s₀ s₁ : Shared) (mg mb : Str → Option Value) (fa : Addr) (o : Obj) (pm cd doc : Value) (a : Addr) (vs : List Value) (ns : List Int),
      Ground q loose [] XP w s₀ mg mb s₁.heap → YP w s₁.heap →
      s₁.heap.get? fa = some o → o.data = .func (docDef d.name d.params d.body d.scope pm cd doc) → s₁.heap.CodeRec cd d.name → mg d.name = some (.ref fa) →
      s₁.heap.get? a = some { cls := .type "list", data := .seq vs.toArray } → IntsAre vs ns → ns.length ≤ n → s₁.gens = #[] →
      codeAny (model l.prog w) callerA (.call (.ref fa) ⟨[.ref a], []⟩) (fun r s' => r = .ok (.ret (.bool true)) ∧ OldK s₁.heap s'.heap ∧ s'.os = s₁.os ∧ AllBare s'.gens) s₁) :
    WalkO q loose XP YP l.row.toRowW d [] (fun f vs => PySem.call f vs) := by
  intro w s₀ s₁ mg mb G Y fa o pm cd doc dV kV ho hd hcd hD hmg hg args vals as hpre hlay hrd hwl hlo
  obtain rfl : dV = .none := Dflts.none hD hdf
  obtain rfl : kV = .none := Dflts.noKw hD
  obtain ⟨a, vs, ns, rfl, rfl, hobj, hints, hlen⟩ := script_of hn hpre hwl
  refine enter_call (codeAny_mono (call w s₀ s₁ mg mb fa o pm cd doc a vs ns G Y ho (fd_plain hd) hcd hmg hobj hints hlen hg) fun r s' hq => ?_)
  obtain ⟨rfl, h2, h3, h4⟩ := hq
  exact ⟨.inl ⟨.bool true, .bool true, [], rfl, fun _ => rfl, .bool true, post_true l _, fun _ => ⟨List.Pairwise.nil, fun _ hm => (nomatch hm)⟩⟩, h2, h3, h4⟩

/-! ### rules over ANY heap (no ledger) from facts about the written part K: the library's own take a ledger (News) for what they write -/
section
variable {prog : Program} {w : World} {A : Around} {E : Value → Shared → Prop} {s : Shared} {K : Frag}

/-! the whole heap as the ledger: makes every rule that writes through a ledger a rule over any heap -/
def ledger (h : Heap) (L d : Addr) : List (Addr × Obj) := (List.range h.objs.size).filterMap fun a => if a = L ∨ a = d then none else (h.get? a).map fun o => (a, o)
end
end Att

namespace L2
open PySem PySem.Spec PyProof.Rows

theorem vals_ints {vs : List Value} {ns : List Int} (h : IntsAre vs ns) : Vals (ns.map V.int) vs := by
  induction h with
  | nil => exact .nil
  | cons n t h ih => exact .cons ⟨t, rfl⟩ ih

/-- nothing is tracked but the script, known to the object (or it is an object of the module) -/
def Only (H : Hp) : Prop := ∀ b, H b = none ∨ ∃ o xs, H b = some (.frz o (.lst xs))

/-- THE HEAD: the law's promise, at the heap behind the top. F, the promise of the law's def, may use that base is part of the heap (so K.In base, base.Ns mainGlobals mg stand in Mod) -/
theorem law_call {P : Program} {w : World} {K : PySem.W.Frag} {mg mb : Str → Option Value} {CX : CXT} {k : Nat} {fa a : Addr} {fd : FuncData} {x : Str} {sp : Sp} {s₁ : Shared} {vs : List Value} {ns : List Int}
    (KX : K.In s₁.heap) (hns : s₁.heap.Ns mainGlobals mg) (hb : s₁.heap.Ns builtinsNs mb) (hbb : ∀ x : Str, x ≠ "__name__" → mb x = bootBuiltins x) (hlim : s₁.heap.NoLimit) (hg : s₁.gens = #[])
    (ha : s₁.heap.get? a = some { cls := .type "list", data := .seq vs.toArray }) (hi : IntsAre vs ns) (hl : ns.length ≤ sizeLine) (hr : Room k callerA)
    (F : ∀ base : Heap, K.In base → base.Ns mainGlobals mg → FnOk P w K mg base CX k fa fd [x] sp) (hbind : ∀ (s : Shared) (u : Value), BindsTo s fd ⟨[u], []⟩ [(x, u)])
    (hsp : ∀ H : Hp, Only H → SqL K H a (ns.map V.int) → sp [.ref a] H (fun v _ => v = .bl true) fun _ _ _ => False)
    (hCX : ∀ H e s', CX [] H s₁ (fun _ _ _ => False) e s' → False) :
    codeAny (model P w) callerA (.call (.ref fa) ⟨[.ref a], []⟩) (fun r s' => r = .ok (.ret (.bool true)) ∧ OldK s₁.heap s'.heap ∧ s'.os = s₁.os ∧ AllBare s'.gens) s₁ := by
  have rv := vals_ints hi
  have lenV := hi.length
  -- from an abstract heap in which nothing but the script may be tracked
  have core : ∀ H : Hp, Only H → SqL K H a (ns.map V.int) → HOk P w H s₁.heap → (∀ b, H b ≠ none → b = a) → (H a ≠ none → K.lookup a = none) →
      codeAny (model P w) callerA (.call (.ref fa) ⟨[.ref a], []⟩) (fun r s' => r = .ok (.ret (.bool true)) ∧ OldK s₁.heap s'.heap ∧ s'.os = s₁.os ∧ AllBare s'.gens) s₁ := by
    intro H hO hS hok hA hK
    have base_of : ∀ {b : Addr} {o : Obj}, s₁.heap.get? b = some o → H b = none → (hidT s₁.heap H).get? b = some o := fun e n => hidT_get e n
    have noA : ∀ {b : Addr} {o : Obj} {es : Array DictEntry} {ep : Nat}, s₁.heap.get? b = some o → o.data = .dict es ep → H b = none := fun {b o es ep} e d => by
      cases q : H b with
      | none => rfl
      | some u =>
        have e' : b = a := hA b (by rw [q]; simp)
        subst e'
        rw [ha] at e; cases e
        have d' : Data.seq vs.toArray _ = Data.dict es ep := d
        cases d'
    have nsK : ∀ {b : Addr} {m : Str → Option Value}, s₁.heap.Ns b m → (hidT s₁.heap H).Ns b m := fun {b m} ⟨o, es, ep, e, d, r⟩ => ⟨o, es, ep, base_of e (noA e d), d, r⟩
    have hKb : K.In (hidT s₁.heap H) := fun b o e => base_of (KX b o e) (by
      cases q : H b with
      | none => rfl
      | some u =>
        have e' : b = a := hA b (by rw [q]; simp)
        subst e'
        rw [hK (by rw [q]; simp)] at e; cases e)
    have hM : Mod K mg (hidT s₁.heap H) := ⟨hKb, nsK hns, ⟨mb, nsK hb, hbb⟩, let ⟨mc, h1, h2⟩ := hlim; ⟨mc, nsK h1, h2⟩⟩
    have e0 : Env0 P w K mg (hidT s₁.heap H) callerA [] s₁ H := ⟨rfl, hM, fun b o e => of_hidT e, Nat.le_of_eq (hidT_size _ _), trivial, fun b hb => absurd (show b ∈ ([] : List Addr) from hb) (by simp), hok, .of_eq hg⟩
    refine codeAny_mono ((F _ hKb (nsK hns)).run callerA [] s₁ H ⟨[.ref a], []⟩ [.ref a] [.ref a] _ _ hr e0 (hbind s₁ (.ref a)) (.cons rfl .nil) (hsp H hO hS)) fun r s' h => ?_
    cases r with
    | error e => exact (hCX H e s' h).elim
    | ok fl =>
      cases fl with
      | next => exact False.elim h
      | brk => exact False.elim h
      | cont => exact False.elim h
      | ret u =>
        obtain ⟨v, H', os, bare, un, hok', r', q⟩ := h
        have q' : v = .bl true := q
        subst q'
        obtain rfl : u = Value.bool true := r'
        refine ⟨rfl, OldK.of_keep fun b o e => ?_, os, bare⟩
        cases q : H b with
        | none => exact un.keep b o e q (by intro z; exact absurd (show b ∈ ([] : List Addr) from z) (by simp)) (by simp)
        | some u =>
          rcases hO b with z | ⟨ob, xs, z⟩
          · rw [q] at z; cases z
          · have z2 := un.frzs b ob _ z
            obtain ⟨e1, _⟩ := hok b _ z
            obtain ⟨e2, _⟩ := hok' b _ z2
            rw [e] at e1; cases e1
            exact e2
  cases hk : K.lookup a with
  | some o =>
    -- the script is one of the module's own objects
    have e := KX a o hk
    rw [ha] at e
    cases e
    refine core (fun _ => none) (fun _ => .inl rfl) (.inr ⟨_, vs.toArray, _, hk, rfl, rfl, rfl, by rw [List.size_toArray, lenV]; exact hl, by simpa using rv⟩) (fun b u z => by have z' : (none : Option HO) = some u := z; cases z') (fun b z => absurd rfl z) fun z => absurd rfl z
  | none =>
    refine core (fun b => if b = a then some (.frz { cls := .type "list", data := .seq vs.toArray } (.lst (ns.map V.int))) else none) (fun b => ?_) (.inl (.inr ⟨{ cls := .type "list", data := .seq vs.toArray }, if_pos rfl⟩)) (fun b u z => ?_) (fun b z => ?_) fun _ => hk
    · by_cases hb : b = a
      · exact .inr ⟨_, _, if_pos hb⟩
      · exact .inl (if_neg hb)
    · by_cases hb : b = a
      · have z' := (if_pos hb).symm.trans z
        cases z'
        subst hb
        exact ⟨ha, by rw [List.length_map]; exact hl, vs, _, rv, ha⟩
      · have z' := (if_neg hb).symm.trans z
        cases z'
    · by_cases hb : b = a
      · exact hb
      · exact absurd (if_neg hb) z
end L2

namespace L2
open PySem PySem.Spec PyProof.Rows

abbrev KOf {K : PySem.W.Frag} {h : Heap} (_ : K.In h) : PySem.W.Frag := K

/-- the goal that k_head leaves (case hc), from the law's promise. F gives the function object fd (K's own) once, then the promise over every base -/
theorem walk_of {l : PySem.W.OpenLaw} {n k : Nat} {q : Program} {loose : List Str} {XP : (Str → Option Value) → Heap → Prop} {YP : World → Heap → Prop} {d : DefRec} {K : Params → PySem.W.Frag} {CX : World → CXT} {sp : World → Sp} {x : Str}
    (hn : l.most = some n) (hn2 : n ≤ sizeLine) (hdf : d.params.defaults = []) (hr : Room k callerA)
    (hY : ∀ (w : World) (h : Heap), YP w h → (K w.params).In h)
    (F : ∀ (w : World) (mg : Str → Option Value) (fa : Addr) (h : Heap), (K w.params).In h → h.Ns mainGlobals mg → mg d.name = some (.ref fa) →
      ∃ fd : FuncData, (∀ (s : Shared) (u : Value), BindsTo s fd ⟨[u], []⟩ [(x, u)]) ∧
        ∀ base : Heap, (K w.params).In base → base.Ns mainGlobals mg → FnOk l.prog w (K w.params) mg base (CX w) k fa fd [x] (sp w))
    (hsp : ∀ (w : World) (H : Hp) (a : Addr) (ns : List Int), ns.length ≤ n → Only H → SqL (K w.params) H a (ns.map V.int) → sp w [.ref a] H (fun v _ => v = .bl true) fun _ _ _ => False)
    (hCX : ∀ (w : World) (H : Hp) (s : Shared) (e : Value) (s' : Shared), CX w [] H s (fun _ _ _ => False) e s' → False) :
    PySem.W.WalkO q loose XP YP l.row.toRowW d [] (fun f vs => PySem.call f vs) := by
  refine Att.attach_call hn hdf fun w s₀ s₁ mg mb fa o pm cd doc a vs ns G Y ho hd hcd hmg hobj hints hlen hg => ?_
  have KX := hY w _ Y
  obtain ⟨fd, hb, hF⟩ := F w mg fa _ KX G.T.g hmg
  exact law_call KX G.T.g G.T.b G.T.builtins G.T.nolimit hg hobj hints (Nat.le_trans hlen hn2) hr hF hb (fun H hO hS => hsp w H a ns hlen hO hS) fun H e s' => hCX w H s₁ e s'
end L2

/- THE LAST THEOREM (shape; LID, My.* are yours):
   My.Adr: a structure of the addresses that your layer names (classes, functions); My.Txt K t: a structure (Prop) of the equations over K;
   My.txt_mk : {K} {implicit addresses ..} (e1 : nsIn K mainGlobals "law" = some (some (.ref f))) (e2 : K.lookup f = some ⟨oc, od, .func (fnOf "law" "law" params body scope dV kV doc pm an cdv ct), sl⟩) (e3 : codeIn K cdv "law" = true) .. : ∃ t, My.Txt K t

set_option maxRecDepth 100000 in
set_option maxHeartbeats 0 in
theorem PySem.Challenge.cw_LID_holds : PySem.Challenge.rw_LID.Holds := by
  w_on; o_law; k_head; (case hw => w_witness2)
  k_fill
  refine L2.walk_of (l := PySem.Challenge.rw_LID) (n := 63) (k := 40) (x := "script") (CX := fun w => ..) (sp := fun _ => My.sp_law) rfl (by decide) rfl ⟨rfl, by decide, by decide⟩ (fun w h Y => PySem.W.kIn_of Y) ?F ?S ?C
  case F =>
    intro w mg fa h KX G hmg
    have T : ∃ t, My.Txt (L2.KOf KX) t := by
      dsimp only [L2.KOf]                          -- K must stand as «<heap const> w.params» for k_is
      refine' My.txt_mk ?e1 ?e2 ?e3 ..
      (case e1 => PySem.W.k_is)                    -- in the order: a name -> its address -> its object -> its parts
      (case e2 => PySem.W.k_is)
      ..
    obtain ⟨t, T⟩ := T
    have e0 := hmg.symm.trans (PySem.W.mg_of KX G T.law)
    cases e0                                       -- fa is the law's own address
    exact ⟨_, fun s u => .of_eq rfl, fun base kb nb => My.law_fn T kb nb⟩     -- if «.of_eq rfl» comes too early: refine' ⟨_, ?b, fun base kb nb => My.law_fn T kb nb⟩; exact fun s u => .of_eq rfl
  case S => exact fun w H a ns hl hO hS => ..
  case C => exact ..
(the tactic k_is has no namespace: write k_is) -/

/-! SHORT WORDS over the layer: a def of the text, its body, what a loop and a test want. -/
namespace L2
open PySem PySem.Spec PyProof.Rows

/-! ### the text by places -/
/-- the j-th statement of a class's body -/
def inClass (s : Stmt) (j : Nat) : Stmt := match s with
  | .ClassDef _ _ _ body _ _ _ _ _ _ _ => body.getD j (.Pass ⟨0, 0, 0, 0⟩)
  | _ => .Pass ⟨0, 0, 0, 0⟩
def defArgs (s : Stmt) : Arguments := match s with
  | .FunctionDef _ a _ _ _ _ _ _ _ _ => a
  | _ => { posonlyargs := [], args := [], vararg := none, kwonlyargs := [], kw_defaults := [], kwarg := none, defaults := [] }
def defBody (s : Stmt) : List Stmt := match s with
  | .FunctionDef _ _ b _ _ _ _ _ _ _ => b
  | _ => []
def defScope (s : Stmt) : Scope := match s with
  | .FunctionDef _ _ _ _ _ _ sc _ _ _ => sc
  | _ => { kind := .function, names := [], isGenerator := false, isCoroutine := false }

/-! ### no exception leaves a def -/
abbrev CX0 : CXT := fun _ _ _ _ _ _ => False
abbrev E0 : XK := fun _ _ _ => False
theorem pass0 {X : Cx} : Passes CX0 X E0 := fun _ _ _ _ _ _ _ h => h.elim

/-! ### a def (or method) of the text as it stands behind the top -/
structure Fun (K : PySem.W.Frag) (x qual : Str) (st : Stmt) (f : Addr) (fd : FuncData) : Prop where
  ex : ∃ (oc : Value) (od : Option Addr) (kV doc pm : Value) (an : Option Addr) (cdv ct : Value) (osl : Array (Option Value)),
    fd = PySem.W.fnOf x qual (defArgs st) (defBody st) (defScope st) .none kV doc pm an cdv ct ∧ K.lookup f = some ⟨oc, od, .func fd, osl⟩ ∧ PySem.W.codeIn K cdv qual = true
  kp : PySem.W.keepIn K (.ref f) = true
section
variable {P : Program} {w : World} {K : PySem.W.Frag} {mg : Str → Option Value} {base : Heap}
/-- THE RULE for a def: its body as a term of rules, and the reading of that term -/
theorem Fun.ok {x qual : Str} {st : Stmt} {f : Addr} {fd : FuncData} {N ps : List Str} {k : Nat} {sp : Sp} (F : Fun K x qual st f fd) (S : FnScope N ps (defScope st)) (len : ∀ vs H Q E, sp vs H Q E → vs.length = ps.length)
    (hbody : ∀ (cdv : Value) (A : Around) (outer : List Env) (s : Shared) (H : Hp) (vs : List V) (Q : VK) (E : XK), Room k (A.deeper (envOfC qual (defScope st) s.heap.objs.size f cdv)) → sp vs H Q E →
      ∃ t, PSs (cxOf CX0 P w K mg base N qual (defScope st) f cdv A outer s H E).nox (defBody st) t ∧ t { nx := fun _ H' => Q .non H', rt := Q } (start N vs) H) : FnOk P w K mg base CX0 (k + 1) f fd ps sp := by
  obtain ⟨oc, od, kV, doc, pm, an, cdv, ct, osl, rfl, lk, hcd⟩ := F.ex
  refine fn_of lk hcd S len fun A outer s H vs Q E hr hsp => ?_
  obtain ⟨t, h, q⟩ := hbody cdv A outer s H vs Q E hr hsp
  exact ⟨t, h.nox, q⟩
/-- how its arguments bind (no defaults): h is «fun _ _ _ _ _ _ us hl => match us, hl with | [_, _], _ => rfl», one _ a parameter -/
theorem Fun.binds {x qual : Str} {st : Stmt} {f : Addr} {fd : FuncData} {ps : List Str} (F : Fun K x qual st f fd)
    (h : ∀ (kV doc pm : Value) (an : Option Addr) (cdv ct : Value) (us : List Value), us.length = ps.length → bindArgs (PySem.W.fnOf x qual (defArgs st) (defBody st) (defScope st) .none kV doc pm an cdv ct) ⟨us, []⟩ = pure (ps.zip us)) : Binds K fd ps [] := by
  obtain ⟨oc, od, kV, doc, pm, an, cdv, ct, osl, rfl, lk, hcd⟩ := F.ex
  exact .all (h kV doc pm an cdv ct)
theorem fun_mk {x qual : Str} {st : Stmt} {f : Addr} {oc : Value} {od an : Option Addr} {osl : Array (Option Value)} {kV doc pm cdv ct : Value} (l : K.lookup f = some ⟨oc, od, .func (PySem.W.fnOf x qual (defArgs st) (defBody st) (defScope st) .none kV doc pm an cdv ct), osl⟩)
    (c : PySem.W.codeIn K cdv qual = true) (k : PySem.W.keepIn K (.ref f) = true) : Fun K x qual st f (PySem.W.fnOf x qual (defArgs st) (defBody st) (defScope st) .none kV doc pm an cdv ct) := ⟨⟨oc, od, kV, doc, pm, an, cdv, ct, osl, rfl, l, c⟩, k⟩
end
theorem hu_of {A : Around} {k : Nat} (hr : Room k A) : A.units + 1 < cLine := Nat.lt_of_le_of_lt (Nat.add_le_add_left (by decide : 1 ≤ 64) _) hr.units
/-! ### expressions in short: the name that stands in the i-th slot -/
section
variable {X : Cx}
theorem pv (i : Nat) {x : Str} {pos : Pos} (hN : X.N[i]? = some x := by rfl) (hv : Vis X.env.scope x := by first | exact Or.inl rfl | exact Or.inr (Or.inl rfl) | exact Or.inr (Or.inr rfl)) (hd : (x == ("__debug__" : Str)) = false := by decide)
    (hcd : (x == ("__classdict__" : Str)) = false := by decide) : PE X (.Name x pos) (tVar i) := pe_var hN hv hd hcd
end

/-! ### tests -/
theorem iteF {A B : Prop} (h : B) : if false = true then A else B := by
  rw [if_neg Bool.false_ne_true]
  exact h
theorem iteT {A B : Prop} (h : A) : if true = true then A else B := by
  rw [if_pos rfl]
  exact h
theorem ite2 {c A B : Prop} [Decidable c] (h1 : c → A) (h2 : ¬ c → B) : if c then A else B := by
  by_cases h : c
  · rw [if_pos h]
    exact h1 h
  · rw [if_neg h]
    exact h2 h
theorem iteNS {c A B : Prop} [Decidable c] (hc : c) (h : B) : if (!decide c) = true then A else B := by
  rw [decide_eq_true hc]
  exact iteF h

/-! ### heaps -/
/-- all that was tracked is as it was -/
def Same (H H' : Hp) : Prop := ∀ b o, H b = some o → H' b = some o
theorem Same.refl (H : Hp) : Same H H := fun _ _ h => h
theorem Same.trans {H H1 H2 : Hp} (a : Same H H1) (b : Same H1 H2) : Same H H2 := fun c o h => b c o (a c o h)
theorem Same.free {H H' : Hp} (e : Same H H') {l : Addr} (h : H' l = Option.none) : H l = Option.none := by
  cases q : H l with
  | none => rfl
  | some o =>
    rw [e l o q] at h
    cases h
theorem Same.seq {K : PySem.W.Frag} {H H' : Hp} {a : Addr} {xs : List V} (e : Same H H') (h : SqL K H a xs) : SqL K H' a xs := by
  rcases h with (h | ⟨o, h⟩) | h
  · exact .inl (.inl (e _ _ h))
  · exact .inl (.inr ⟨o, e _ _ h⟩)
  · exact .inr h

/-! ### a dict's pairs: keys that differ -/
section
variable {κ : Type} [DecidableEq κ]
end
end L2

set_option Elab.async false
set_option linter.all false
set_option maxRecDepth 100000
set_option maxHeartbeats 4000000
namespace L2
open PySem PySem.Spec PyProof.Rows

theorem natlt {a n : Addr} (h : a < n) : @LT.lt Nat _ a n := h
/-! ### a comprehension's block -/
/-- the cells that a block takes along -/
def clOf (env : Env) : List (Str × NameKind) → List (Str × Addr) → List (Str × Addr)
  | [], acc => acc
  | (n, k) :: r, acc => if k == .free then clOf env r ((n, (env.cells.lookup n).getD 0) :: acc) else clOf env r acc
theorem closure_eq {env : Env} {scope : Scope} (h : ∀ y ∈ scope.names, y.2 = .free → (env.cells.lookup y.1).isSome = true) : closureFor scope env = pure (clOf env scope.names []) := by
  have go : ∀ (ns : List (Str × NameKind)) (acc : List (Str × Addr)), (∀ y ∈ ns, y.2 = .free → (env.cells.lookup y.1).isSome = true) →
      (forIn ns acc (fun x cs => match x with | (name, kind) => if (kind == .free) = true then do let c ← cellOf env name; pure (ForInStep.yield ((name, c) :: cs)) else pure (ForInStep.yield cs)) : Sem (List (Str × Addr))) = pure (clOf env ns acc) := by
    intro ns
    induction ns with
    | nil => intro acc _; rfl
    | cons y r ih =>
      intro acc hy
      obtain ⟨n, k⟩ := y
      rw [List.forIn_cons]
      by_cases hk : k = .free
      · subst hk
        have hs := hy (n, .free) List.mem_cons_self rfl
        obtain ⟨c, hc⟩ := Option.isSome_iff_exists.mp hs
        have e : cellOf env n = pure c := by unfold cellOf; rw [hc]
        show _ = pure (clOf env r ((n, (env.cells.lookup n).getD 0) :: acc))
        rw [← ih _ fun y hm => hy y (List.mem_cons_of_mem _ hm)]
        simp only [beq_self_eq_true, if_true, e, pure_bind, hc, Option.getD_some]
      · have hb : (k == NameKind.free) = false := by simpa using hk
        have hc : clOf env ((n, k) :: r) acc = clOf env r acc := by
          show (if (k == NameKind.free) = true then _ else _) = _
          rw [if_neg (by rw [hb]; decide)]
        rw [hc, ← ih _ fun y hm => hy y (List.mem_cons_of_mem _ hm)]
        simp only [hb, Bool.false_eq_true, if_false, pure_bind]
  have q := go scope.names [] h
  unfold closureFor
  show (forIn scope.names [] _ >>= fun r => pure r) = _
  rw [bind_pure]
  exact q
theorem clOf_lookup {env : Env} : ∀ (ns : List (Str × NameKind)) (acc : List (Str × Addr)) (x : Str), (∀ y ∈ ns, y.2 = .free → (env.cells.lookup y.1).isSome = true) →
    (clOf env ns acc).lookup x = if (x, NameKind.free) ∈ ns then env.cells.lookup x else acc.lookup x
  | [], acc, x, _ => by simp [clOf]
  | (n, k) :: r, acc, x, h => by
    have hr : ∀ y ∈ r, y.2 = .free → (env.cells.lookup y.1).isSome = true := fun y hm => h y (List.mem_cons_of_mem _ hm)
    by_cases hk : k = .free
    · subst hk
      show (clOf env r ((n, (env.cells.lookup n).getD 0) :: acc)).lookup x = _
      rw [clOf_lookup r _ x hr]
      obtain ⟨c, hc⟩ := Option.isSome_iff_exists.mp (h (n, .free) List.mem_cons_self rfl)
      have hc : env.cells.lookup n = some c := hc
      by_cases hm : (x, NameKind.free) ∈ r
      · rw [if_pos hm, if_pos (List.mem_cons_of_mem _ hm)]
      · rw [if_neg hm]
        by_cases e : x = n
        · subst e
          rw [if_pos List.mem_cons_self, List.lookup_cons, hc]
          simp
        · rw [if_neg (fun z => (List.mem_cons.mp z).elim (fun q => e (congrArg Prod.fst q)) hm), List.lookup_cons]
          have : (x == n) = false := by simpa using e
          rw [this]
    · have hb : (k == NameKind.free) = false := by simpa using hk
      have hc : clOf env ((n, k) :: r) acc = clOf env r acc := by
        show (if (k == NameKind.free) = true then _ else _) = _
        rw [if_neg (by rw [hb]; decide)]
      rw [hc, clOf_lookup r acc x hr]
      have : ((x, NameKind.free) ∈ (n, k) :: r) ↔ (x, NameKind.free) ∈ r := by
        constructor
        · intro z
          rcases List.mem_cons.mp z with q | q
          · exact absurd (congrArg Prod.snd q).symm hk
          · exact q
        · exact List.mem_cons_of_mem _
      simp only [this]

theorem relabel_lookup (env : Env) : ∀ (ns : List (Str × NameKind)) (x : Str),
    (ns.map fun (n, k) => if (k == .free && env.scope.kind == .function && env.kindOf n == some .cell) then (n, NameKind.cell) else (n, k)).lookup x =
      (ns.lookup x).map fun k => if (k == .free && env.scope.kind == .function && env.kindOf x == some .cell) = true then NameKind.cell else k
  | [], x => rfl
  | (n, k) :: r, x => by
    show List.lookup x ((if (k == NameKind.free && env.scope.kind == .function && env.kindOf n == some .cell) = true then (n, NameKind.cell) else (n, k)) :: _) = _
    cases hx : x == n with
    | true =>
      have e : x = n := by simpa using hx
      subst e
      by_cases hc : (k == NameKind.free && env.scope.kind == .function && env.kindOf x == some .cell) = true
      · rw [if_pos hc]; simp only [List.lookup_cons, hx, Option.map_some, if_pos hc]
      · rw [if_neg hc]; simp only [List.lookup_cons, hx, Option.map_some, if_neg hc]
    | false =>
      have ih := relabel_lookup env r x
      by_cases hc : (k == NameKind.free && env.scope.kind == .function && env.kindOf n == some .cell) = true
      · rw [if_pos hc]; simp only [List.lookup_cons, hx]; exact ih
      · rw [if_neg hc]; simp only [List.lookup_cons, hx]; exact ih

/-- the block's names: its own first, then those that it takes along: the outer names at the places caps -/
structure CompScope (N own : List Str) (caps : List Nat) (XN : List Str) (outer scope : Scope) : Prop where
  kind : scope.kind = .function
  nocell : ∀ y ∈ scope.names, y.2 ≠ .cell
  names : ∀ y ∈ scope.names, y.2 = .local → scope.names.lookup y.1 = some .local
  free : ∀ y ∈ scope.names, y.2 = .free → outer.names.lookup y.1 = some .cell ∨ outer.names.lookup y.1 = some .free
  nd : N.Nodup
  len : N.length = own.length + caps.length
  cap : ∀ (j : Nat), j < caps.length → N[own.length + j]? = XN[caps.getD j 0]? ∧ ∃ x, N[own.length + j]? = some x ∧ (x, NameKind.free) ∈ scope.names ∧ scope.names.lookup x = some .free

def st0 (own : List Str) (caps : List Nat) (σ : St) : St := own.map (fun _ => none) ++ caps.map (fun i => (σ[i]?).join)

def cxComp (X : Cx) (scope : Scope) (C : Addr) (N : List Str) (s : Shared) (H : Hp) (fp : List Addr) : Cx :=
  { X with N := N, s₀ := s, H₀ := H, env := compEnvC scope (clOf X.env scope.names []) C X.env, outer := X.stack, ex := fp, fn := fun _ => false, pn := [], xe := fun _ _ => False }

section
variable {X : Cx} {pins : List (Addr × Obj)} {σ : St} {H : Hp} {s : Shared} {scope : Scope} {N own : List Str} {caps : List Nat} {fp : List Addr} {C : Nat}
theorem CompScope.csome (S : CompScope N own caps X.N X.env.scope scope) (ok : X.Ok) : ∀ y ∈ scope.names, y.2 = .free → (X.env.cells.lookup y.1).isSome = true := fun y hy hf => by
  obtain ⟨c, e⟩ := ok.has y.1 (S.free y hy hf)
  rw [e]; rfl
theorem CompScope.csub (S : CompScope N own caps X.N X.env.scope scope) (ok : X.Ok) {x : Str} {c : Addr} (h : (clOf X.env scope.names []).lookup x = some c) : X.env.cells.lookup x = some c := by
  rw [clOf_lookup _ _ _ (S.csome ok)] at h
  split at h
  · exact h
  · simp at h
theorem CompScope.lookFree {S : CompScope N own caps X.N X.env.scope scope} {x : Str} (h : (relabel scope X.env).names.lookup x = some .cell ∨ (relabel scope X.env).names.lookup x = some .free) : (x, NameKind.free) ∈ scope.names := by
  have e := relabel_lookup X.env scope.names x
  have e' : (relabel scope X.env).names.lookup x = (scope.names.lookup x).map fun k => if (k == .free && X.env.scope.kind == .function && X.env.kindOf x == some .cell) = true then NameKind.cell else k := e
  rw [e'] at h
  cases q : scope.names.lookup x with
  | none => rw [q] at h; simp at h
  | some k =>
    have hm := PySem.mem_of_lookup q
    by_cases hk : k = .free
    · subst hk; exact hm
    · rw [q] at h
      have hb : (k == NameKind.free) = false := by simpa using hk
      simp only [Option.map_some, hb, Bool.false_and, Bool.false_eq_true, if_false] at h
      rcases h with h | h
      · exact absurd (Option.some.inj h) (S.nocell _ hm)
      · exact absurd (Option.some.inj h) hk

/-- the block's context is in order, and its names stand -/
theorem Inv.comp {h1 : Heap} {D : Nat} (I : Inv X pins σ H s) (S : CompScope N own caps X.N X.env.scope scope) (hfp : ∀ b ∈ fp, FpOk X pins H b) (hfo : ∀ b ∈ fp, ∃ o, s.heap.get? b = some o)
    (hD : D = s.heap.objs.size) (hC : C = s.heap.objs.size + 1) (old : ∀ b o, s.heap.get? b = some o → h1.get? b = some o) (hns : h1.Ns C (fun _ => none)) (hl : h1.get? D = some { cls := .type "list", data := .seq #[] }) {t : Nat} :
    Inv (cxComp X scope C N s H fp) [] (st0 own caps σ) (upd H D (.lst [])) { s with heap := h1, toks := t } := by
  have some' := S.csome I.ok
  have sub : ∀ {x c}, (clOf X.env scope.names []).lookup x = some c → X.env.cells.lookup x = some c := fun h => S.csub I.ok h
  have freshD : H D = none := I.hok.fresh (by rw [hD]; exact Nat.le_refl _)
  have freshC : H C = none := I.hok.fresh (by rw [hC]; exact Nat.le_succ _)
  have cellLt : ∀ x c, X.env.cells.lookup x = some c → c < s.heap.objs.size := fun x c e => by
    obtain ⟨v, z⟩ := I.cell x c e
    exact z.lt
  have fpLt : ∀ b ∈ fp, b < s.heap.objs.size := fun b hb => by
    obtain ⟨o, e⟩ := hfo b hb
    exact Heap.lt_size e
  have DC : D ≠ C := by omega
  refine ⟨⟨I.ok.mod, S.kind, I.ok.glob, I.ok.blt, by show s.heap.objs.size ≤ C; omega, fun x y c e1 e2 => I.ok.inj x y c (sub e1) (sub e2), fun x h => ?_, fun x c h => (by cases h), I.ok.hd, I.ok.frames, Or.inl rfl, fun b hb => ⟨?_, fun x c e => ?_⟩, I.bs, Nat.le_trans I.ok.bsz I.sz, fun b o e hb => ?_, fun b hb z => ?_, I.stack, I.stkFree⟩,
    rfl, I.bare, Un.laid old (by show s.heap.objs.size ≤ D; omega) freshD, ⟨_, hns, fun j x v e1 e2 e3 => ?_⟩, fun x c e => ?_, ?_, fun x c e => ?_, fun p hp => ?_, I.hok.laid old (by omega) ?_, ?_⟩
  · have hm := CompScope.lookFree (S := S) (X := X) h
    obtain ⟨c, e⟩ := Option.isSome_iff_exists.mp (some' _ hm rfl)
    exact ⟨c, by show (clOf X.env scope.names []).lookup x = _; rw [clOf_lookup _ _ _ some', if_pos hm]; exact e⟩
  · exact Nat.ne_of_lt (show @LT.lt Nat _ b C by have := natlt (fpLt b hb); omega)
  · exact (hfp b hb).2.2.2.2.1 x c (sub e)
  · rcases (hfp b hb).2.2.2.1 with z | z
    · exact I.ok.noex b o e z
    · exact absurd (Nat.lt_of_lt_of_le (Heap.lt_size e) (Nat.le_trans I.ok.bsz z)) (Nat.lt_irrefl _)
  · rcases List.mem_cons.mp (I.stkSub b z) with q | q
    · exact (hfp b hb).2.1 q
    · exact (hfp b hb).2.2.1 q
  · have e1 : N[j]? = some x := e1
    have hj : own.length ≤ j := by
      by_cases q : own.length ≤ j
      · exact q
      · exfalso
        unfold st0 at e2
        rw [List.getElem?_append_left (by simp; omega), List.getElem?_map] at e2
        cases r : own[j]? with
        | none => rw [r] at e2; cases e2
        | some a => rw [r] at e2; cases e2
    have hjl : j < N.length := (List.getElem?_eq_some_iff.mp e1).1
    have hjc : j - own.length < caps.length := by have := S.len; omega
    obtain ⟨c1, x', c2, c3, c4⟩ := S.cap (j - own.length) hjc
    rw [show own.length + (j - own.length) = j by omega] at c1 c2
    rw [e1] at c2
    cases c2
    have e2' : (σ[caps.getD (j - own.length) 0]?).join = some v := by
      unfold st0 at e2
      rw [List.getElem?_append_right (by simp; omega), List.getElem?_map, List.length_map] at e2
      rw [List.getD_eq_getElem?_getD]
      cases r : caps[j - own.length]? with
      | none => rw [r] at e2; cases e2
      | some a => rw [r] at e2; exact Option.some.inj e2
    have e2'' : σ[caps.getD (j - own.length) 0]? = some (some v) := by
      cases r : σ[caps.getD (j - own.length) 0]? with
      | none => rw [r] at e2'; cases e2'
      | some a => rw [r] at e2'; exact congrArg Option.some e2'
    have kx : X.env.kindOf x = some .cell ∨ X.env.kindOf x = some .free := S.free _ c3 rfl
    obtain ⟨m, hn, hl'⟩ := I.loc
    obtain ⟨u, r, l⟩ := hl' _ x v (by rw [← c1]; exact e1) e2'' (by rcases kx with z | z; exact .inr (.inl z); exact .inr (.inr z))
    refine ⟨u, r, .inr ⟨?_, ?_⟩⟩
    · show (relabel scope X.env).names.lookup x = some .cell ∨ (relabel scope X.env).names.lookup x = some .free
      have e : (relabel scope X.env).names.lookup x = (scope.names.lookup x).map fun k => if (k == .free && X.env.scope.kind == .function && X.env.kindOf x == some .cell) = true then NameKind.cell else k := relabel_lookup X.env scope.names x
      rw [e, c4, Option.map_some]
      split
      · exact .inl rfl
      · exact .inr rfl
    · rcases l with ⟨hk, _⟩ | ⟨_, c, hc, z⟩
      · rcases kx with q | q <;> rw [hk] at q <;> cases q
      · refine ⟨c, ?_, ?_⟩
        · show (clOf X.env scope.names []).lookup x = _
          rw [clOf_lookup _ _ _ some', if_pos c3]; exact hc
        · obtain ⟨o, ho, hd⟩ := z
          exact ⟨o, old c o ho, hd⟩
  · obtain ⟨v, o, ho, hd⟩ := I.cell x c (sub e)
    exact ⟨v, o, old c o ho, hd⟩
  · show upd H D (.lst []) C = none
    rw [upd_ne DC.symm]; exact freshC
  · show upd H D (.lst []) c = none
    rw [upd_ne (Nat.ne_of_lt (by have := natlt (cellLt x c (sub e)); omega))]; exact I.freeC x c (sub e)
  · cases hp
  · exact ⟨Nat.zero_le _, [], 0, .nil, hl⟩
  · show (own.map (fun _ => none) ++ caps.map _).length = N.length
    rw [List.length_append, List.length_map, List.length_map, S.len]

/-- behind the block -/
theorem Inv.uncomp {pins' : List (Addr × Obj)} {σ' : St} {H' : Hp} {s' : Shared} {h' : Heap} (I : Inv X pins σ H s) (hfp : ∀ b ∈ fp, FpOk X pins H b) (hC : s.heap.objs.size ≤ C) (J : Inv (cxComp X scope C N s H fp) pins' σ' H' s') (hs : Heap.SameBut C s'.heap h') :
    Inv X pins σ H' { s' with heap := h' } := by
  have nC : ∀ b o, s.heap.get? b = some o → b ≠ C := fun b o e => Nat.ne_of_lt (by have := natlt (Heap.lt_size e); omega)
  have u := J.base
  have frC : H' C = none := J.free
  refine I.call' (ch := fp) (s' := { s' with heap := h' }) J.os ⟨fun b o e n hb hx => ?_, fun b o e n hb hx => ?_, u.free, fun b o e hx => ?_, u.tups, u.frzs, u.tbls⟩ (fun a o e => (J.hok a o e).stay (fun b v hb q => ?_) (fun _ q => q) fun _ _ q => q) J.bare fun b hb => ?_
  · exact (hs.2 b (nC b o e)).trans (u.keep b o e n hb hx)
  · obtain ⟨sl, q⟩ := u.slot b o e n hb hx
    exact ⟨sl, (hs.2 b (nC b o e)).trans q⟩
  · obtain ⟨o', q⟩ := u.there b o e hx
    exact ⟨o', (hs.2 b (nC b o e)).trans q⟩
  · refine (hs.2 b ?_).trans q
    intro z
    subst z
    rcases hb with z | z
    · subst z; rw [frC] at e; cases e
    · rw [frC] at z; cases z
  · exact ⟨(hfp b hb).2.2.2.1, (hfp b hb).2.1, (hfp b hb).2.2.2.2.1, (hfp b hb).2.2.2.2.2⟩
end

section
variable {prog : Program} {w : World} {A : Around} {R : Result → Shared → Prop} {s : Shared}
theorem compLoop_any {elt target iter : Expr} {ifs : List Expr} {scope : Scope} {pos : Pos} {it acc : Value} {env : Env} (I : Nat → Shared → Prop)
    (turn : ∀ n s, I n s → wpAny (model prog w) A (pyNext it) (fun r s1 => match r with
      | none => R (.ok .next) s1
      | some v => wpAny (model prog w) A (letOwnedTupleGo target it v) (fun _ s1' => wpAny (model prog w) A (assign target env v) (fun _ s2 =>
          wpAny (model prog w) A (forIn ifs true fun c r => if r = true then do let ok ← isTrue c env (eval c env); pure (ForInStep.yield ok) else pure (ForInStep.yield r)) (fun ok s3 =>
            if ok = true then wpAny (model prog w) A (eval elt env) (fun x s4 =>
              wpAny (model prog w) A (call (.builtin "list.append") [acc, x]) (fun _ s5 => ∃ m, m < n ∧ I m s5) (fun _ _ => False) s4) (fun _ _ => False) s3
            else ∃ m, m < n ∧ I m s3) (fun _ _ => False) s2) (fun _ _ => False) s1') (fun _ _ => False) s1) (fun _ _ => False) s)
    (n : Nat) (h : I n s) :
    codeAny (model prog w) A (.compLoop (.ListComp elt [⟨target, iter, ifs, 0⟩] scope pos) 0 it acc env) R s := by
  refine codeAny_loop rfl I (fun n s hI => ?_) n h
  show wpAny _ A ((compTurn (.ListComp elt [⟨target, iter, ifs, 0⟩] scope pos) 0 it acc env).onRaise (fun x => do noteFrame x env; theTreesLotGoes x)) _ _ s
  refine wpAny_noted ?_
  rw [compTurn_list]
  refine wpAny_bind (wpAny_standAt (wpAny_bind (wpAny_mono (turn n s hI) (fun r s1 h1 => ?_) fun _ _ h' => h'.elim)))
  cases r with
  | none => exact wpAny_pure h1
  | some v =>
    refine wpAny_bind (wpAny_mono h1 (fun _ s1' h1' => ?_) fun _ _ h' => h'.elim)
    refine wpAny_bind (wpAny_mono h1' (fun _ s2 h2 => wpAny_bind (wpAny_mono h2 (fun ok s3 h3 => ?_) fun _ _ h' => h'.elim)) fun _ _ h' => h'.elim)
    cases ok with
    | false => exact wpAny_pure ⟨rfl, h3⟩
    | true =>
      exact wpAny_bind (wpAny_bind (wpAny_mono h3 (fun x s4 h4 => wpAny_bind (wpAny_mono h4 (fun _ s5 h5 => wpAny_pure (wpAny_pure ⟨rfl, h5⟩)) fun _ _ h' => h'.elim)) fun _ _ h' => h'.elim))
end

/-- the tests of a comprehension -/
def PTs (X : Cx) (ifs : List Expr) (t : TT) : Prop :=
  ∀ (pins : List (Addr × Obj)) (s : Shared) (σ : St) (H : Hp) (Q : Bool → Hp → Prop), Inv X pins σ H s → t σ H Q →
    wpAny (model X.prog X.w) X.A (forIn ifs true fun c r => if r = true then do let ok ← isTrue c X.env (eval c X.env); pure (ForInStep.yield ok) else pure (ForInStep.yield r)) (TP X pins σ Q) X.xe s
def tAll : TT := fun _ H Q => Q true H
theorem pts_nil {X : Cx} : PTs X [] tAll := fun _ _ _ H _ I h => wpAny_tests_nil ⟨H, I, h⟩
theorem pts_one {X : Cx} {c : Expr} {t : TT} (h : PT X c t) : PTs X [c] t := fun pins s σ H Q I q => wpAny_tests_one (h pins s σ H Q I q)

/-- [e for target in iter if c]: W between two turns; the list grows at D; N: what the turn is to reach -/
def CompW (J : It) (g : TG) (tc : TT) (te : TE) (Q : VK) (D : Addr) (σ0 : St) (H1 : Hp) : Prop :=
  ∃ W : Nat → Nat → St → Hp → Prop, (∃ m, W 0 m σ0 (upd H1 D (.lst []))) ∧ ∀ i m σ H, W i m σ H →
    (J.stop i H ∧ Q (.ref D) H) ∨ (J.go i H ∧ ∃ N : St → Hp → Prop, (∀ σ' H', N σ' H' → ∃ m', m' < m ∧ W (i + 1) m' σ' H') ∧ ∀ x H', J.yld i H x H' → g x σ H' fun σ2 H2 => tc σ2 H2 fun b H3 =>
      if b = true then te σ2 H3 fun y H4 => ∃ acc, H4 D = some (.lst acc) ∧ acc.length < sizeLine ∧ N σ2 (upd H4 D (.lst (acc ++ [y]))) else N σ2 H3)
def tComp (own : List Str) (caps : List Nat) (wi : TI) (g : TG) (tc : TT) (te : TE) : TE := fun σ H Q => wi σ H fun J H1 => ∀ D, H1 D = none → CompW J g tc te Q D (st0 own caps σ) H1

section
variable {X : Cx} {elt tg iter : Expr} {ifs : List Expr} {scope : Scope} {pos : Pos} {N own : List Str} {caps : List Nat} {wi : TI} {g : TG} {tc : TT} {te : TE}
/-- the block run: from the iterator to the list -/
theorem comp_run {use : Option (Value → Sem Unit)} {Qv : Value → Shared → Prop} {pins : List (Addr × Obj)} {σ : St} {H : Hp} {s : Shared} {Q : VK} (hc : X.calm = true) (S : CompScope N own caps X.N X.env.scope scope)
    (hg : ∀ C s H fp, PG (cxComp X scope C N s H fp) tg g) (hcs : ∀ C s H fp, PTs (cxComp X scope C N s H fp) ifs tc) (he : ∀ C s H fp, PE (cxComp X scope C N s H fp) elt te)
    (hi : PI X tg iter wi) (hs : ∀ x, foldedSetIterable iter X.env x = pure x)
    (I : Inv X pins σ H s) (h : tComp own caps wi g tc te σ H Q)
    (fin : ∀ (D C : Addr) (H' : Hp) (s' : Shared), (∃ m, s'.heap.Ns C m) → Inv X pins σ H' s' → (∀ h', Heap.SameBut C s'.heap h' → Inv X pins σ H' { s' with heap := h' }) → FpOk X pins H' C → Q (.ref D) H' →
      compPost (model X.prog X.w) X.A X.xe use Qv (.ref D) C (.ok .next) s') :
    wpAny (model X.prog X.w) X.A (comprehension (.ListComp elt [⟨tg, iter, ifs, 0⟩] scope pos) scope X.env (firstIterPos [⟨tg, iter, ifs, 0⟩] pos) (newList []) false (eval iter X.env) use) Qv X.xe s := by
  refine wpAny_comprehension_free (use := use) rfl hs (closure_eq (S.csome I.ok)) S.kind S.names (thn (hi pins s σ H _ I h) fun xv s1 h1 => thn h1 fun itv s2 h2 => ?_)
  obtain ⟨it, fp, tn, J, H2, e, I2, T, st2, f2, q2⟩ := h2
  subst e
  refine wpAny_newList ?_
  refine wpAny_newFunctionEnv S.nocell (by intro y hy; simp at hy) (fun h1 hns1 hsb1 => ?_) S.kind
  dsimp only at hns1 hsb1 ⊢
  have hD : H2 s2.heap.objs.size = none := I2.hok.fresh (Nat.le_refl _)
  have hsz : (s2.heap.push { cls := .type "list", data := .seq ([] : List Value).toArray }).objs.size = s2.heap.objs.size + 1 := Heap.size_push ..
  have old : ∀ b o, s2.heap.get? b = some o → h1.get? b = some o := fun b o e => by
    refine hsb1.extBut b o (Nat.ne_of_lt (by have := natlt (Heap.lt_size e); rw [hsz]; omega)) (Heap.get?_push_of_some _ (Heap.get?_push_of_some _ e))
  have hl : h1.get? s2.heap.objs.size = some { cls := .type "list", data := .seq #[] } :=
    hsb1.extBut _ _ (Nat.ne_of_lt (by rw [hsz]; omega)) (Heap.get?_push_of_some _ (Heap.get?_push_size _ rfl))
  have hfo : ∀ b ∈ fp, ∃ o, s2.heap.get? b = some o := fun b hb => let ⟨o, e, _⟩ := T.obj _ _ st2 b hb; ⟨o, e⟩
  have I4 := Inv.comp (C := (s2.heap.push { cls := .type "list", data := .seq ([] : List Value).toArray }).objs.size) (t := s2.toks + ([] : List (Str × Value)).length) I2 S f2 hfo rfl hsz old hns1 hl
  obtain ⟨W, ⟨m0, w0⟩, turn⟩ := q2 _ hD
  generalize hCe : (s2.heap.push { cls := .type "list", data := .seq ([] : List Value).toArray }).objs.size = C at *
  generalize hDe : s2.heap.objs.size = D at *
  have hDC : D ≠ C := by omega
  -- the loop
  have loop : ∀ s3 : Shared, s3 = { s2 with heap := h1, toks := s2.toks + ([] : List (Str × Value)).length } →
      codeAny (model X.prog X.w) X.A (.compLoop (.ListComp elt [⟨tg, iter, ifs, 0⟩] scope pos) 0 (.ref it) (.ref D) (cxComp X scope C N s2 H2 fp).env) (compPost (model X.prog X.w) X.A X.xe use Qv (.ref D) C) s3 := by
    rintro s3 rfl
    have frz : ∀ b ∈ fp, (upd H2 D (.lst [])) b = none := fun b hb => by
      obtain ⟨o, e⟩ := hfo b hb
      rw [upd_ne (Nat.ne_of_lt (by have := natlt (Heap.lt_size e); omega))]
      exact (f2 b hb).1
    have stat : ∀ {H' : Hp}, (∀ b ∈ fp, H' b = none) → ∀ b ∈ fp, FpOk (cxComp X scope C N s2 H2 fp) [] H' b := fun hn b hb => by
      obtain ⟨o, e⟩ := hfo b hb
      have hlt := natlt (Heap.lt_size e)
      refine ⟨hn b hb, ?_, fun z => ?_, .inl hb, fun x c e' => (f2 b hb).2.2.2.2.1 x c (S.csub I2.ok e'), fun p hp => (by cases hp)⟩
      · exact Nat.ne_of_lt (show @LT.lt Nat _ b C by omega)
      · rcases List.mem_cons.mp (I2.stkSub b z) with q | q
        · exact (f2 b hb).2.1 q
        · exact (f2 b hb).2.2.1 q
    refine compLoop_any (fun n s' => ∃ i σ' H', Inv (cxComp X scope C N s2 H2 fp) [] σ' H' s' ∧ tn i s'.heap ∧ (∀ b ∈ fp, H' b = none) ∧ W i n σ' H') ?_ m0
      ⟨0, _, _, I4, T.keep _ _ _ st2 fun b _ o e => old b o e, frz, w0⟩
    rintro n s3 ⟨i, σ3, H3, I3, st3, fr3, w3⟩
    rcases turn i n σ3 H3 w3 with ⟨stop, qn⟩ | ⟨go, Nx, hNx, step⟩
    · refine thn (T.done (cxComp X scope C N s2 H2 fp) rfl rfl rfl hc i [] s3 σ3 H3 _ I3 (stat fr3) st3 stop) fun r s4 ⟨hr, J4⟩ => ?_
      subst hr
      obtain ⟨m4, hn4, _⟩ := J4.loc
      exact fin D C H3 s4 ⟨m4, hn4⟩ (I2.uncomp f2 (by omega) J4 (Heap.SameBut.refl _ _)) (fun h' hs' => I2.uncomp f2 (by omega) J4 hs') (I2.fpOk (show s2.heap.objs.size ≤ C by omega) J4.free) qn
    · refine thn (T.item (cxComp X scope C N s2 H2 fp) rfl rfl rfl hc i [] s3 σ3 H3 _ I3 (stat fr3) st3 go) fun r s4 ⟨u, hr, h4⟩ => ?_
      subst hr
      refine thn h4 fun _ s5 ⟨x, H5, I5, r5, y5, st5, fr5⟩ => ?_
      have I5' := I5.pinned (stat fr5) (T.obj _ _ st5)
      refine thn (hg C s2 H2 fp _ s5 σ3 H5 x u _ I5' r5 (step x H5 y5)) fun _ s6 ⟨σ6, H6, I6, q6⟩ => ?_
      refine thn (hcs C s2 H2 fp _ s6 σ6 H6 _ I6 q6) fun ok s7 ⟨H7, I7, q7⟩ => ?_
      have again : ∀ {σ8 : St} {H8 : Hp} {s8 : Shared}, Inv (cxComp X scope C N s2 H2 fp) ([] ++ pinsAt fp s5.heap) σ8 H8 s8 → Nx σ8 H8 → ∃ m, m < n ∧ ∃ i σ' H', Inv (cxComp X scope C N s2 H2 fp) [] σ' H' s8 ∧ tn i s8.heap ∧ (∀ b ∈ fp, H' b = none) ∧ W i m σ' H' := fun {σ8 H8 s8} I8 n8 => by
        obtain ⟨m', hm, w8⟩ := hNx _ _ n8
        refine ⟨m', hm, i + 1, σ8, H8, I8.unpinned, T.keep _ _ _ st5 fun b hb o e => (I8.pin (b, o) (List.mem_append_right _ (List.mem_append_right _ (mem_pinsAt hb e)))).1, fun b hb => ?_, w8⟩
        obtain ⟨o, e, d⟩ := T.obj _ _ st5 b hb
        exact (I8.pin (b, o) (List.mem_append_right _ (List.mem_append_right _ (mem_pinsAt hb e)))).2.1
      cases ok with
      | false =>
        rw [if_neg (by decide)] at q7
        exact again I7 q7
      | true =>
        rw [if_pos rfl] at q7
        refine thn (he C s2 H2 fp _ s7 σ6 H7 _ I7 q7) fun y s8 ⟨yv, H8, I8, r8, acc, ha, hlen, q8⟩ => ?_
        exact thn (mt_append _ s8 σ6 H8 (.ref D) [yv] (.ref D) [y] (fun v H9 => Nx σ6 H9) I8 rfl (.cons r8 .nil) ⟨D, acc, yv, rfl, rfl, ha, hlen, q8⟩) fun _ s9 ⟨_, H9, I9, _, q9⟩ => again I9 q9
  exact codeAny_compStart_list (loop _ rfl) (T.self _ 0 _ _ _ (T.keep _ _ _ st2 fun b _ o e => old b o e) (loop _ rfl))

theorem pe_comp (hc : X.calm = true) (S : CompScope N own caps X.N X.env.scope scope) (hi : PI X tg iter wi)
    (hg : ∀ C s H fp, PG (cxComp X scope C N s H fp) tg g) (hcs : ∀ C s H fp, PTs (cxComp X scope C N s H fp) ifs tc) (he : ∀ C s H fp, PE (cxComp X scope C N s H fp) elt te)
    (hs : ∀ x, foldedSetIterable iter X.env x = pure x := by intro _; rfl) : PE X (.ListComp elt [⟨tg, iter, ifs, 0⟩] scope pos) (tComp own caps wi g tc te) := by
  intro pins s σ H Q I h
  rw [eval_ListComp]
  refine comp_run (use := none) hc S hg hcs he hi hs I h ?_
  intro D C H' s' hn I' hk _ q
  obtain ⟨m, hn⟩ := hn
  exact ⟨m, hn, fun h' hs' => ⟨.ref D, H', hk h' hs', rfl, q⟩⟩
/-- x = [e for ..] on one row: the name is stored ahead of the block's names being let go -/
theorem ps_setC {i : Nat} {x : Str} {px sp : Pos} (hc : X.calm = true) (hN : X.N.Nodup) (hx : X.N[i]? = some x) (hl : Loc X.env.scope x) (S : CompScope N own caps X.N X.env.scope scope) (hi : PI X tg iter wi)
    (hg : ∀ C s H fp, PG (cxComp X scope C N s H fp) tg g) (hcs : ∀ C s H fp, PTs (cxComp X scope C N s H fp) ifs tc) (he : ∀ C s H fp, PE (cxComp X scope C N s H fp) elt te)
    (hsw : swapsWith (.ListComp elt [⟨tg, iter, ifs, 0⟩] scope pos) (some (.Name x px)) sp.line X.env = pure true := by rfl)
    (hs : ∀ x, foldedSetIterable iter X.env x = pure x := by intro _; rfl) (hf : X.fn x = true ∨ X.env.scope.names.lookup x = some .local := by first | exact .inl rfl | exact .inr rfl | assumption) :
    PS X (.Assign [.Name x px] (.ListComp elt [⟨tg, iter, ifs, 0⟩] scope pos) sp) (tAsg (tComp own caps wi g tc te) (gName i)) := by
  intro pins s σ H D I h
  rw [exec_Assign_Name_used _ _ _ _ hsw]
  refine wpAny_bind (wpAny_standAt (wpAny_bind ?_))
  show wpAny _ X.A (do let _ ← comprehension (.ListComp elt [⟨tg, iter, ifs, 0⟩] scope pos) scope X.env (firstIterPos [⟨tg, iter, ifs, 0⟩] pos) (newList []) false (eval iter X.env) (some (assign (.Name x px) X.env))) _ _ s
  refine wpAny_bind (wpAny_mono (comp_run (use := some (assign (.Name x px) X.env)) (Qv := fun _ s' => SP X pins D .next s') hc S hg hcs he hi hs I h ?_) (fun _ s' hq => wpAny_pure (wpAny_pure hq)) fun _ _ e => e)
  intro E C H' s' hn I' hk fC q
  obtain ⟨m, hn⟩ := hn
  obtain ⟨f0, f1, f2, f3, f4, f5⟩ := fC
  show wpAny _ X.A (assign (.Name x px) X.env (.ref E)) _ _ _
  refine wpAny_assign_Name (store_ok2 I' hN hx hl (v := .ref E) rfl (fun s2 I2 k => ?_) hf)
  refine ⟨m, ?_, fun h' hs' => ?_⟩
  · obtain ⟨o, es, ep, ho, r⟩ := hn
    obtain ⟨a, ks, ka⟩ := k
    have hCa : C ≠ a := fun z => by
      rcases ka with q' | q'
      · exact f1 (z.trans q')
      · exact f4 x a q' z.symm
    exact ⟨o, es, ep, (ks.2 C hCa).trans ho, r⟩
  · exact ⟨_, H', I2.turned (t' := s2.toks) (fun b o hb e => (hs'.2 b hb).trans e) f0 f1 f3 f4 f5, q⟩
end
/-- the names of a block, checked -/
def compOk (N own : List Str) (caps : List Nat) (XN : List Str) (outer scope : Scope) : Bool :=
  decide (scope.kind = .function) && scope.names.all (fun y => decide (y.2 ≠ .cell)) && scope.names.all (fun y => decide (y.2 ≠ .local) || decide (scope.names.lookup y.1 = some .local)) &&
  scope.names.all (fun y => decide (y.2 ≠ .free) || decide (outer.names.lookup y.1 = some .cell) || decide (outer.names.lookup y.1 = some .free)) && decide N.Nodup && decide (N.length = own.length + caps.length) &&
  (List.range caps.length).all (fun j => match N[own.length + j]? with | some x => decide (XN[caps.getD j 0]? = some x) && decide ((x, NameKind.free) ∈ scope.names) && decide (scope.names.lookup x = some .free) | none => false)
theorem CompScope.of {N own : List Str} {caps : List Nat} {XN : List Str} {outer scope : Scope} (h : compOk N own caps XN outer scope = true) : CompScope N own caps XN outer scope := by
  unfold compOk at h
  simp only [Bool.and_eq_true, decide_eq_true_eq, List.all_eq_true, Bool.or_eq_true] at h
  obtain ⟨⟨⟨⟨⟨⟨h1, h2⟩, h3⟩, h4⟩, h5⟩, h6⟩, h7⟩ := h
  refine ⟨h1, h2, fun y hy e => ?_, fun y hy e => ?_, h5, h6, fun j hj => ?_⟩
  · rcases h3 y hy with z | z
    · exact absurd e z
    · exact z
  · rcases h4 y hy with (z | z) | z
    · exact absurd e z
    · exact .inl z
    · exact .inr z
  · have q := h7 j (List.mem_range.mpr hj)
    cases e : N[own.length + j]? with
    | none => rw [e] at q; cases q
    | some x =>
      rw [e] at q
      simp only [Bool.and_eq_true, decide_eq_true_eq] at q
      exact ⟨q.1.1.symm, x, rfl, q.1.2, q.2⟩
end L2
set_option Elab.async false
set_option linter.all false
set_option maxRecDepth 100000
set_option maxHeartbeats 4000000
namespace L2
open PySem PySem.Spec PyProof.Rows

/-! ### plain data at a heap -/
mutual
def Dat (H : Hp) : V → PyData → Prop
  | v, .none => v = .non
  | v, .bool b => v = .bl b
  | v, .int i => v = .int i
  | v, .str x => v = .str x
  | v, .list ds => ∃ a vs, v = .ref a ∧ H a = some (.lst vs) ∧ Dats H vs ds
  | v, .tuple ds => ∃ a vs, v = .ref a ∧ H a = some (.tup vs) ∧ Dats H vs ds
  | _, .dict _ => False
def Dats (H : Hp) : List V → List PyData → Prop
  | [], [] => True
  | v :: vs, d :: ds => Dat H v d ∧ Dats H vs ds
  | [], _ :: _ => False
  | _ :: _, [] => False
end
section
variable {H H' : Hp}
theorem Dats.length : ∀ {vs : List V} {ds : List PyData}, Dats H vs ds → vs.length = ds.length
  | [], [], _ => rfl
  | _ :: _, _ :: _, h => by simp only [Dats] at h; simp [Dats.length h.2]
  | [], _ :: _, h => by simp only [Dats] at h
  | _ :: _, [], h => by simp only [Dats] at h
theorem Dats.get : ∀ {vs : List V} {ds : List PyData} {i : Nat} {v : V}, Dats H vs ds → vs[i]? = some v → ∃ d, ds[i]? = some d ∧ Dat H v d
  | _ :: _, _ :: _, 0, _, h, e => by simp only [Dats] at h; simp at e; subst e; exact ⟨_, rfl, h.1⟩
  | _ :: _, _ :: _, i + 1, _, h, e => by simp only [Dats] at h; simp at e; obtain ⟨d, q, r⟩ := Dats.get h.2 e; exact ⟨d, by simpa using q, r⟩
  | [], [], _, _, _, e => by simp at e
  | [], _ :: _, _, _, h, _ => by simp only [Dats] at h
  | _ :: _, [], _, _, h, _ => by simp only [Dats] at h
theorem Dats.append : ∀ {vs ws : List V} {ds es : List PyData}, Dats H vs ds → Dats H ws es → Dats H (vs ++ ws) (ds ++ es)
  | [], _, [], _, _, g => g
  | _ :: _, _, _ :: _, _, h, g => by simp only [Dats, List.cons_append] at h ⊢; exact ⟨h.1, Dats.append h.2 g⟩
  | [], _, _ :: _, _, h, _ => by simp only [Dats] at h
  | _ :: _, _, [], _, h, _ => by simp only [Dats] at h
theorem Dats.take : ∀ {vs : List V} {ds : List PyData} (n : Nat), Dats H vs ds → Dats H (vs.take n) (ds.take n)
  | _, _, 0, _ => by simp only [List.take_zero, Dats]
  | [], [], _ + 1, _ => by simp only [List.take_nil, Dats]
  | _ :: _, _ :: _, n + 1, h => by simp only [Dats, List.take_succ_cons] at h ⊢; exact ⟨h.1, Dats.take n h.2⟩
  | [], _ :: _, _ + 1, h => by simp only [Dats] at h
  | _ :: _, [], _ + 1, h => by simp only [Dats] at h
theorem Dats.drop : ∀ {vs : List V} {ds : List PyData} (n : Nat), Dats H vs ds → Dats H (vs.drop n) (ds.drop n)
  | _, _, 0, h => by simpa using h
  | [], [], _ + 1, _ => by simp only [List.drop_nil, Dats]
  | _ :: _, _ :: _, n + 1, h => by simp only [Dats, List.drop_succ_cons] at h ⊢; exact Dats.drop n h.2
  | [], _ :: _, _ + 1, h => by simp only [Dats] at h
  | _ :: _, [], _ + 1, h => by simp only [Dats] at h
theorem Dats.ints (ns : List Int) : Dats H (ns.map V.int) (ns.map PyData.int) := by
  induction ns with
  | nil => simp only [List.map_nil, Dats]
  | cons n r ih => simp only [List.map_cons, Dats, Dat]; exact ⟨trivial, ih⟩
mutual
theorem Dat.mono (hl : ∀ a xs, H a = some (HO.lst xs) → H' a = some (HO.lst xs)) (ht : ∀ a xs, H a = some (HO.tup xs) → H' a = some (HO.tup xs)) : ∀ (d : PyData) {v : V}, Dat H v d → Dat H' v d
  | .none, _, h => by simp only [Dat] at h ⊢; exact h
  | .bool _, _, h => by simp only [Dat] at h ⊢; exact h
  | .int _, _, h => by simp only [Dat] at h ⊢; exact h
  | .str _, _, h => by simp only [Dat] at h ⊢; exact h
  | .list ds, _, h => by simp only [Dat] at h ⊢; obtain ⟨a, vs, e, q, r⟩ := h; exact ⟨a, vs, e, hl _ _ q, Dats.mono hl ht ds r⟩
  | .tuple ds, _, h => by simp only [Dat] at h ⊢; obtain ⟨a, vs, e, q, r⟩ := h; exact ⟨a, vs, e, ht _ _ q, Dats.mono hl ht ds r⟩
  | .dict _, _, h => by simp only [Dat] at h
theorem Dats.mono (hl : ∀ a xs, H a = some (HO.lst xs) → H' a = some (HO.lst xs)) (ht : ∀ a xs, H a = some (HO.tup xs) → H' a = some (HO.tup xs)) : ∀ (ds : List PyData) {vs : List V}, Dats H vs ds → Dats H' vs ds
  | [], [], _ => by simp only [Dats]
  | d :: ds, v :: vs, h => by simp only [Dats] at h ⊢; exact ⟨Dat.mono hl ht d h.1, Dats.mono hl ht ds h.2⟩
  | _ :: _, [], h => by simp only [Dats] at h
  | [], _ :: _, h => by simp only [Dats] at h
end
mutual
/-- no list within -/
def imm : PyData → Bool
  | .tuple ds => imms ds
  | .list _ | .dict _ => false
  | .none | .bool _ | .int _ | .str _ => true
def imms : List PyData → Bool
  | [] => true
  | d :: ds => imm d && imms ds
end
mutual
theorem Dat.keep (ht : ∀ a xs, H a = some (HO.tup xs) → H' a = some (HO.tup xs)) : ∀ (d : PyData) {v : V}, imm d = true → Dat H v d → Dat H' v d
  | .none, _, _, h => by simp only [Dat] at h ⊢; exact h
  | .bool _, _, _, h => by simp only [Dat] at h ⊢; exact h
  | .int _, _, _, h => by simp only [Dat] at h ⊢; exact h
  | .str _, _, _, h => by simp only [Dat] at h ⊢; exact h
  | .list ds, _, i, h => by simp only [imm] at i; cases i
  | .tuple ds, _, i, h => by simp only [Dat] at h ⊢; simp only [imm] at i; obtain ⟨a, vs, e, q, r⟩ := h; exact ⟨a, vs, e, ht _ _ q, Dats.keep ht ds i r⟩
  | .dict _, _, _, h => by simp only [Dat] at h
theorem Dats.keep (ht : ∀ a xs, H a = some (HO.tup xs) → H' a = some (HO.tup xs)) : ∀ (ds : List PyData) {vs : List V}, imms ds = true → Dats H vs ds → Dats H' vs ds
  | [], [], _, _ => by simp only [Dats]
  | d :: ds, v :: vs, i, h => by simp only [Dats] at h ⊢; simp only [imms, Bool.and_eq_true] at i; exact ⟨Dat.keep ht d i.1 h.1, Dats.keep ht ds i.2 h.2⟩
  | _ :: _, [], _, h => by simp only [Dats] at h
  | [], _ :: _, _, h => by simp only [Dats] at h
end
theorem imms_map {α : Type} (f : α → PyData) (h : ∀ x, imm (f x) = true) : ∀ l : List α, imms (l.map f) = true
  | [] => rfl
  | a :: l => by simp only [List.map_cons, imms, h a, imms_map f h l, Bool.and_self]
end

section
variable {X : Cx} {pins : List (Addr × Obj)} {σ : St} {H : Hp} {s : Shared}
mutual
theorem Inv.reads (I : Inv X pins σ H s) : ∀ (d : PyData) {v : V} {u : Value}, Dat H v d → RelV v u → ∃ as, Reads s.heap u d as
  | .none, v, u, h, r => by
    simp only [Dat] at h; subst h; cases (show u = Value.none from r); exact ⟨_, .none⟩
  | .bool b, v, u, h, r => by
    simp only [Dat] at h; subst h; cases (show u = Value.bool b from r); exact ⟨_, .bool b⟩
  | .int i, v, u, h, r => by
    simp only [Dat] at h; subst h; obtain ⟨t, q⟩ := (show ∃ t, u = Value.int i t from r); cases q; exact ⟨_, .int i t⟩
  | .str x, v, u, h, r => by
    simp only [Dat] at h; subst h; obtain ⟨t, q⟩ := (show ∃ t, u = Value.str x t from r); cases q; exact ⟨_, .str x t⟩
  | .list ds, v, u, h, r => by
    simp only [Dat] at h
    obtain ⟨a, vs, rfl, q, g⟩ := h
    cases (show u = Value.ref a from r)
    obtain ⟨its, rv, p, hz⟩ := I.list (SqL.of q)
    obtain ⟨o, ho, hc, n, hd⟩ := p.isList
    obtain ⟨as, ra⟩ := Inv.readsAll I ds g rv
    exact ⟨_, .list ho hc hd (by simpa using ra)⟩
  | .tuple ds, v, u, h, r => by
    simp only [Dat] at h
    obtain ⟨a, vs, rfl, q, g⟩ := h
    cases (show u = Value.ref a from r)
    obtain ⟨its, rv, p, hz⟩ := I.tuple (SqT.of q)
    obtain ⟨o, ho, hc, n, hd⟩ := p
    obtain ⟨as, ra⟩ := Inv.readsAll I ds g rv
    exact ⟨_, .tuple ho hc hd (by simpa using ra)⟩
  | .dict _, _, _, h, _ => by simp only [Dat] at h
theorem Inv.readsAll (I : Inv X pins σ H s) : ∀ (ds : List PyData) {vs : List V} {us : List Value}, Dats H vs ds → Vals vs us → ∃ as, ReadsAll s.heap us ds as
  | [], [], _, _, .nil => ⟨_, .nil⟩
  | d :: ds, v :: vs, _, h, .cons r rs => by
    simp only [Dats] at h
    obtain ⟨as, ra⟩ := Inv.reads I d h.1 r
    obtain ⟨bs, rb⟩ := Inv.readsAll I ds h.2 rs
    exact ⟨_, .cons ra rb⟩
  | _ :: _, [], _, h, _ => by simp only [Dats] at h
  | [], _ :: _, _, h, _ => by simp only [Dats] at h
end
/-- == and != of data -/
def rEqD (neg : Bool) : R2 := fun x y H Q => ∃ d e, Dat H x d ∧ Dat H y e ∧ SeqAt.shaped d = true ∧ SeqAt.shaped e = true ∧ Q (.bl (if neg then !PyData.eqv d e else PyData.eqv d e)) H
theorem op_eqD (hu : X.A.units + 64 < cLine) : OpR X (compareOp .Eq) (rEqD false) := by
  intro pins s σ H x y v u Q I rx ry h
  obtain ⟨d, e, h1, h2, s1, s2, q⟩ := h
  obtain ⟨as, ra⟩ := I.reads d h1 rx
  obtain ⟨bs, rb⟩ := I.reads e h2 ry
  exact SeqAt.compareEq_shaped ra rb s1 s2 hu ⟨.bl _, H, I, rfl, q⟩
theorem op_neD (hu : X.A.units + 64 < cLine) : OpR X (compareOp .NotEq) (rEqD true) := by
  intro pins s σ H x y v u Q I rx ry h
  obtain ⟨d, e, h1, h2, s1, s2, q⟩ := h
  obtain ⟨as, ra⟩ := I.reads d h1 rx
  obtain ⟨bs, rb⟩ := I.reads e h2 ry
  exact SeqAt.compareNe_shaped ra rb s1 s2 hu ⟨.bl _, H, I, rfl, q⟩

/-! ### isinstance -/
/-- isinstance(x, c): c's value is known -/
theorem call_isi {c : Value} {cv : V} (rc : RelV cv c) : CallR X (.builtin "isinstance") (fun xs H Q => ∃ x t b, xs = [x, cv] ∧ TyOf X.K H x t ∧ PySem.W.kitOne X.K t c = some b ∧ Q (.bl b) H) := by
  intro pins s σ H xs us Q I r h
  obtain ⟨x, t, b, rfl, ty, e, q⟩ := h
  obtain ⟨u, w', rfl, r1, r2⟩ := vals2 r
  have : w' = c := by
    cases cv with
    | non => exact (show w' = Value.none from r2).trans (show c = Value.none from rc).symm
    | bl b => exact (show w' = Value.bool b from r2).trans (show c = Value.bool b from rc).symm
    | ref a => exact (show w' = Value.ref a from r2).trans (show c = Value.ref a from rc).symm
    | ty n => exact (show w' = Value.type n from r2).trans (show c = Value.type n from rc).symm
    | int i => obtain ⟨t1, rfl⟩ := (show ∃ t, c = Value.int i t from rc); unfold PySem.W.kitOne at e; exact absurd e (by cases ty <;> simp [PySem.W.kitCls])
    | str i => obtain ⟨t1, rfl⟩ := (show ∃ t, c = Value.str i t from rc); unfold PySem.W.kitOne at e; exact absurd e (by cases ty <;> simp [PySem.W.kitCls])
    | byt i => obtain ⟨t1, rfl⟩ := (show ∃ t, c = Value.bytes i t from rc); unfold PySem.W.kitOne at e; exact absurd e (by cases ty <;> simp [PySem.W.kitCls])
    | flt i => obtain ⟨t1, rfl⟩ := (show ∃ t, c = Value.float i t from rc); unfold PySem.W.kitOne at e; exact absurd e (by cases ty <;> simp [PySem.W.kitCls])
  subst this
  exact isinst_ok I r1 ty e fun tk => ⟨.bl b, H, I.tok _, rfl, q⟩
end

/-! ### all, any over a list of bools -/
section
variable {prog : Program} {w : World} {A : Around}
theorem walks_list (hh : A.handled = none) (it a : Addr) (hne : it ≠ a) (its : List Value) : Walks prog w A it [it, a] [it] its.length (fun i v => its[i]? = some v) (fun i h => h.IsListIter it a i ∧ h.IsList a its.toArray) where
  sub := by simp
  frame := fun i h h' ⟨s1, o, ho, hc⟩ k => ⟨s1.at fun o e => k it (by simp) o e, o, k a (by simp) o ho, hc⟩
  item := fun i s Q E hi ⟨s1, s2⟩ hQ => wpAny_pyNext_list_item s1 s2 (x := its[i]) (by simp [hi]) fun h' st' sb =>
    hQ _ h' s.toks (by simp [hi]) ⟨st', s2.extBut sb.extBut hne.symm⟩ fun b o hb e => (sb.2 b (by simpa using hb)).trans e
  done := fun s Q E ⟨s1, s2⟩ hQ => wpAny_pyNext_list_end hh s1 s2 (by simp) fun h' eb => hQ h' s.toks fun b o hb e => eb b o (by simpa using hb) e
  self := fun i s Q E ⟨s1, _⟩ hQ => wpAny_pyIter_listiter s1 hQ
end
section
variable {X : Cx}
theorem range_all_get (bs : List Bool) : (List.range bs.length).all (fun i => (bs[i]?).getD false) = bs.all id := by
  rw [Bool.eq_iff_iff, List.all_eq_true, List.all_eq_true]
  constructor
  · intro h b hb
    obtain ⟨i, hi, rfl⟩ := List.getElem_of_mem hb
    have := h i (by simpa using hi)
    simpa [hi] using this
  · intro h i hi
    have hi' : i < bs.length := by simpa using hi
    simpa [hi'] using h bs[i] (List.getElem_mem hi')
theorem vals_bools {bs : List Bool} : ∀ {us : List Value}, Vals (bs.map V.bl) us → us = bs.map Value.bool := by
  induction bs with
  | nil => intro us r; cases r; rfl
  | cons b bs ih =>
    intro us r
    cases r with
    | cons r rs => cases (show _ = Value.bool b from r); rw [ih rs]; rfl
theorem call_all_bools (hc : X.calm = true) : CallR X (.builtin "all") (fun xs H Q => ∃ (p : Addr) (bs : List Bool), xs = [.ref p] ∧ SqL X.K H p (bs.map V.bl) ∧ Q (.bl (bs.all id)) H) := by
  intro pins s σ H xs us Q I r h
  obtain ⟨p, bs, rfl, hq, q⟩ := h
  obtain ⟨u, rfl, rx⟩ := vals1 r
  cases rx
  obtain ⟨its, rv, pl, hz⟩ := I.list hq
  have e := vals_bools rv
  have hlen : its.length = bs.length := by rw [e, List.length_map]
  refine call_all_walk (wpAny_pyIter_list pl.isList ⟨s.heap.objs.size, [s.heap.objs.size, p], [s.heap.objs.size], its.length, _, _, fun i => (bs[i]?).getD false, rfl,
    walks_list (show X.A.in1.handled = none from I.ok.hd hc) s.heap.objs.size p ?_ its, ⟨⟨_, Heap.get?_push_size _ rfl, rfl, rfl⟩, ?_⟩, ?_, ?_⟩)
  · intro z
    obtain ⟨o, ho, _⟩ := pl.isList
    have := Heap.lt_size ho
    rw [← z] at this
    exact Nat.lt_irrefl _ this
  · obtain ⟨o, ho, hcl⟩ := pl.isList
    exact ⟨o, Heap.get?_push_of_some _ ho, hcl⟩
  · intro i v s1 Q1 E1 hP hQ
    rw [e, List.getElem?_map] at hP
    cases r : bs[i]? with
    | none => rw [r] at hP; cases hP
    | some b =>
      rw [r] at hP
      cases hP
      simp only [r, Option.getD_some] at hQ
      exact wpAny_truthy_bool hQ
  · intro h' tk k
    rw [hlen, range_all_get]
    have f := I.fpOk (H' := H) (b := s.heap.objs.size) (Nat.le_refl _) (I.hok.fresh (Nat.le_refl _))
    have I2 : Inv X pins σ H { s with heap := h', toks := tk } := I.turned (h' := h') (t' := tk) (it := s.heap.objs.size) (fun b o hb e => k b o (by simpa using hb) (Heap.get?_push_of_some _ e)) f.1 f.2.1 f.2.2.2.1 f.2.2.2.2.1 f.2.2.2.2.2
    exact ⟨.bl _, H, I2, rfl, q⟩
end
end L2
set_option Elab.async false
set_option linter.all false
set_option maxRecDepth 100000
set_option maxHeartbeats 4000000
namespace L2
open PySem PySem.Spec PyProof.Rows

/-! ### a def of the text, called by its name; no exception leaves it -/
def FnAt (P : Program) (w : World) (K : PySem.W.Frag) (mg : Str → Option Value) (base : Heap) (k : Nat) (x : Str) (ps : List Str) (sp : Sp) : Prop :=
  ∃ f fd, FnOk P w K mg base CX0 k f fd ps sp ∧ mg x = some (.ref f) ∧ PySem.W.keepIn K (.ref f) = true ∧ Binds K fd ps []
section
variable {X : Cx} {k j : Nat} {x : Str} {ps : List Str} {sp : Sp} {e : Expr} {es : List Expr} {t : TA} {p pos : Pos}
theorem pe_fn (F : FnAt X.prog X.w X.K X.mg X.base k x ps sp) (hr : Room k X.A) (hg : Gl X x) (ha : PA X (e :: es) t) (hd : (x == ("__debug__" : Str)) = false := by decide)
    (he : starEach (e :: es) X.env = (false, eval e X.env) :: starEach es X.env := by rfl) (hpl : (backTo pos (starEach es X.env)).any (·.1) = false := by rfl) :
    PE X (.Call (.Name x p) (e :: es) [] pos) (tCall sp [] E0 t) := by
  obtain ⟨f, fd, G, hm, hk, hb⟩ := F
  exact pe_call G hr hg hm hk hb .nil pass0 ha (hdb := hd) (he := he) (hpl := hpl)
end

/-! ### what the built-in names are -/
theorem bt_all : bootBuiltins "all" = some (.builtin "all") := by kernel_rfl
theorem bt_len : bootBuiltins "len" = some (.builtin "len") := by kernel_rfl
theorem bt_min : bootBuiltins "min" = some (.builtin "min") := by kernel_rfl
theorem bt_max : bootBuiltins "max" = some (.builtin "max") := by kernel_rfl
theorem bt_sum : bootBuiltins "sum" = some (.builtin "sum") := by kernel_rfl
theorem bt_isinstance : bootBuiltins "isinstance" = some (.builtin "isinstance") := by kernel_rfl
theorem bt_int : bootBuiltins "int" = some (.type "int") := by kernel_rfl
theorem bt_bool : bootBuiltins "bool" = some (.type "bool") := by kernel_rfl
theorem bt_list : bootBuiltins "list" = some (.type "list") := by kernel_rfl
theorem bt_tuple : bootBuiltins "tuple" = some (.type "tuple") := by kernel_rfl
theorem bt_dict : bootBuiltins "dict" = some (.type "dict") := by kernel_rfl

/-! ### a product whose size fits -/
section
variable {X : Cx}
end

/-! ### heaps: what stays -/
/-- all stays but what stands at r -/
def Kp (r : Addr) (H H' : Hp) : Prop := ∀ b o, H b = some o → b ≠ r → H' b = some o
theorem Kp.of_same {r : Addr} {H H' : Hp} (h : Same H H') : Kp r H H' := fun b o e _ => h b o e
theorem Kp.trans {r : Addr} {H H1 H2 : Hp} (a : Kp r H H1) (b : Kp r H1 H2) : Kp r H H2 := fun c o h n => b c o (a c o h n) n
theorem Kp.refl (r : Addr) (H : Hp) : Kp r H H := fun _ _ h _ => h
theorem Kp.set {r : Addr} {H : Hp} {o : HO} : Kp r H (upd H r o) := fun b u e n => by rw [upd_ne n]; exact e
theorem same_new {H : Hp} {p : Addr} {o : HO} (h : H p = none) : Same H (upd H p o) := fun b u e => by rw [upd_ne (ne_of_none e h)]; exact e
theorem Same.tups {H H' : Hp} (e : Same H H') : ∀ a xs, H a = some (HO.tup xs) → H' a = some (HO.tup xs) := fun a xs h => e _ _ h
theorem Same.sqL {K : PySem.W.Frag} {H H' : Hp} (e : Same H H') : ∀ a xs, SqL K H a xs → SqL K H' a xs := fun a xs h => e.seq h
/-- a list at r: tuples are elsewhere -/
theorem Kp.tups {H H' : Hp} {r : Addr} {ys : List V} (e : Kp r H H') (hr : H r = some (.lst ys)) : ∀ a xs, H a = some (HO.tup xs) → H' a = some (HO.tup xs) := fun a xs h => e _ _ h (ne_of h hr (by intro z; cases z))
theorem Kp.tups' {H H' : Hp} {r : Addr} {kvs : List (Key × V)} (e : Kp r H H') (hr : H r = some (.dK kvs)) : ∀ a xs, H a = some (HO.tup xs) → H' a = some (HO.tup xs) := fun a xs h => e _ _ h (ne_of h hr (by intro z; cases z))
end L2

/-! ### the rules over K itself (a block's context has the same K) -/
namespace L2
open PySem PySem.Spec PyProof.Rows
section
variable {X : Cx} {K : PySem.W.Frag}
theorem ix_listK (h : X.K = K) : IxR X (rIxL K) := by subst h; exact ix_list
theorem ix_tupK (h : X.K = K) : IxR X (rIxT K) := by subst h; exact ix_tup
theorem ix_seqK (h : X.K = K) : IxR X (rIx K) := by subst h; exact ix_seq
theorem sl_tupK (h : X.K = K) : SlR X (rSlT K) := by subst h; exact sl_tup
def rLen (K : PySem.W.Frag) : List V → Hp → VK → Prop := fun xs H Q => ∃ (p : Addr) (ys : List V), xs = [.ref p] ∧ (SqL K H p ys ∨ SqT K H p ys) ∧ Q (.int ys.length) H
theorem call_len_seqK (h : X.K = K) : CallR X (.builtin "len") (rLen K) := by subst h; exact call_len_seq
def rListOf (K : PySem.W.Frag) : List V → Hp → VK → Prop := fun xs H Q => ∃ (p : Addr) (ys : List V), xs = [.ref p] ∧ (SqL K H p ys ∨ SqT K H p ys) ∧ ∀ l, H l = none → Q (.ref l) (upd H l (.lst ys))
theorem call_list_ofK (h : X.K = K) : CallR X (.type "list") (rListOf K) := by subst h; exact call_list_of
def rAllB (K : PySem.W.Frag) : List V → Hp → VK → Prop := fun xs H Q => ∃ (p : Addr) (bs : List Bool), xs = [.ref p] ∧ SqL K H p (bs.map V.bl) ∧ Q (.bl (bs.all id)) H
theorem call_all_boolsK (h : X.K = K) (hc : X.calm = true) : CallR X (.builtin "all") (rAllB K) := by subst h; exact call_all_bools hc
theorem op_eqDK (h : X.K = K) (hu : X.A.units + 64 < cLine) : OpR X (compareOp .Eq) (rEqD false) := by subst h; exact op_eqD hu
theorem op_neDK (h : X.K = K) (hu : X.A.units + 64 < cLine) : OpR X (compareOp .NotEq) (rEqD true) := by subst h; exact op_neD hu
theorem pi_listK {tg l : Expr} {tl : TE} (h : X.K = K) (hl : PE X l tl) : PI X tg l (iList K tl) := by subst h; exact pi_list hl
theorem pi_tupK {tg l : Expr} {tl : TE} (h : X.K = K) (hl : PE X l tl) : PI X tg l (iTup K tl) := by subst h; exact pi_tup hl
def rIsi (K : PySem.W.Frag) (c : Value) (cv : V) : List V → Hp → VK → Prop := fun xs H Q => ∃ x t b, xs = [x, cv] ∧ TyOf K H x t ∧ PySem.W.kitOne K t c = some b ∧ Q (.bl b) H
theorem call_isiK {c : Value} {cv : V} (h : X.K = K) (rc : RelV cv c) : CallR X (.builtin "isinstance") (rIsi K c cv) := by subst h; exact call_isi rc
theorem pe_appendK {o e : Expr} {to : TE} {t : TA} {apos cpos : Pos} (h : X.K = K) (ho : PE X o to) (ha : PA X [e] t)
    (hbase : attributeBase o "append" X.env (eval o X.env) = eval o X.env := by rfl)
    (hfew : ((backTo cpos (starEach [e] X.env)).all (fun x => !x.1) && (backToKw cpos (keywordEach [] X.env)).all (fun x => x.1.isSome)
      && decide (([e] : List Expr).length + ([] : List Keyword).length + (if ([] : List Keyword).isEmpty then 0 else 1) < 30)) = true := by rfl)
    (hline : (apos.endLine == cpos.line) = true := by rfl) (hs : starEach [e] X.env = (false, eval e X.env) :: starEach [] X.env := by rfl) (hplain : (backTo cpos (starEach [] X.env)).any (·.1) = false := by rfl) :
    PE X (.Call (.Attribute o "append" apos) [e] [] cpos) (tBM K "list" rAppend to t) := by
  subst h
  exact pe_bm PySem.F.plainAttrs_list PySem.F.slot_list_append PySem.F.type_list_append mt_append ho ha hbase hfew hline hs hplain
end
end L2
namespace L2
open PySem
/-! ### comprehensions by their invariant -/
section
variable {K : PySem.W.Frag} {a D : Addr} {xs : List V} {g : TG} {tc : TT} {te : TE} {Q : VK} {σ0 : St} {H1 : Hp}
/-- over a list that the block leaves as it is -/
theorem comp_list (Pv : Nat → St → Hp → Prop) (h0 : Pv 0 σ0 (upd H1 D (.lst []))) (hl : ∀ i σ H, i ≤ xs.length → Pv i σ H → SqL K H a xs)
    (hs : ∀ i x σ H, xs[i]? = some x → Pv i σ H → g x σ H fun σ2 H2 => tc σ2 H2 fun b H3 =>
      if b = true then te σ2 H3 fun y H4 => ∃ acc, H4 D = some (.lst acc) ∧ acc.length < sizeLine ∧ Pv (i + 1) σ2 (upd H4 D (.lst (acc ++ [y]))) else Pv (i + 1) σ2 H3)
    (hd : ∀ σ H, Pv xs.length σ H → Q (.ref D) H) : CompW (Itl K a) g tc te Q D σ0 H1 := by
  refine ⟨fun i m σ H => m = xs.length - i ∧ i ≤ xs.length ∧ Pv i σ H, ⟨xs.length, by simp, Nat.zero_le _, h0⟩, ?_⟩
  rintro i m σ H ⟨rfl, hi, p⟩
  have q := hl i σ H hi p
  by_cases hlt : i < xs.length
  · refine .inr ⟨⟨xs, xs[i], q, by simp [hlt]⟩, Pv (i + 1), fun σ' H' p' => ⟨xs.length - (i + 1), by omega, rfl, hlt, p'⟩, fun x H' y => ?_⟩
    obtain ⟨e, y⟩ := y
    subst e
    exact hs i x σ _ (y xs q) p
  · have e : i = xs.length := by omega
    subst e
    exact .inl ⟨⟨xs, q, Nat.le_refl _⟩, hd σ H p⟩
theorem comp_tup (Pv : Nat → St → Hp → Prop) (h0 : Pv 0 σ0 (upd H1 D (.lst []))) (hl : ∀ i σ H, i ≤ xs.length → Pv i σ H → SqT K H a xs)
    (hs : ∀ i x σ H, xs[i]? = some x → Pv i σ H → g x σ H fun σ2 H2 => tc σ2 H2 fun b H3 =>
      if b = true then te σ2 H3 fun y H4 => ∃ acc, H4 D = some (.lst acc) ∧ acc.length < sizeLine ∧ Pv (i + 1) σ2 (upd H4 D (.lst (acc ++ [y]))) else Pv (i + 1) σ2 H3)
    (hd : ∀ σ H, Pv xs.length σ H → Q (.ref D) H) : CompW (Itt K a) g tc te Q D σ0 H1 := by
  refine ⟨fun i m σ H => m = xs.length - i ∧ i ≤ xs.length ∧ Pv i σ H, ⟨xs.length, by simp, Nat.zero_le _, h0⟩, ?_⟩
  rintro i m σ H ⟨rfl, hi, p⟩
  have q := hl i σ H hi p
  by_cases hlt : i < xs.length
  · refine .inr ⟨⟨xs, xs[i], q, by simp [hlt]⟩, Pv (i + 1), fun σ' H' p' => ⟨xs.length - (i + 1), by omega, rfl, hlt, p'⟩, fun x H' y => ?_⟩
    obtain ⟨e, y⟩ := y
    subst e
    exact hs i x σ _ (y xs q) p
  · have e : i = xs.length := by omega
    subst e
    exact .inl ⟨⟨xs, q, Nat.le_refl _⟩, hd σ H p⟩
theorem comp_range {lo : Int} {n : Nat} (Pv : Nat → St → Hp → Prop) (h0 : Pv 0 σ0 (upd H1 D (.lst [])))
    (hs : ∀ i σ H, i < n → Pv i σ H → g (.int (lo + i)) σ H fun σ2 H2 => tc σ2 H2 fun b H3 =>
      if b = true then te σ2 H3 fun y H4 => ∃ acc, H4 D = some (.lst acc) ∧ acc.length < sizeLine ∧ Pv (i + 1) σ2 (upd H4 D (.lst (acc ++ [y]))) else Pv (i + 1) σ2 H3)
    (hd : ∀ σ H, Pv n σ H → Q (.ref D) H) : CompW (Itr lo n) g tc te Q D σ0 H1 := by
  refine ⟨fun i m σ H => m = n - i ∧ i ≤ n ∧ Pv i σ H, ⟨n, by simp, Nat.zero_le _, h0⟩, ?_⟩
  rintro i m σ H ⟨rfl, hi, p⟩
  by_cases hlt : i < n
  · refine .inr ⟨hlt, Pv (i + 1), fun σ' H' p' => ⟨n - (i + 1), by omega, rfl, hlt, p'⟩, fun x H' y => ?_⟩
    obtain ⟨e, y⟩ := y
    subst e y
    exact hs i σ _ hlt p
  · have e : i = n := by omega
    subst e
    exact .inl ⟨Nat.le_refl _, hd σ H p⟩
end
end L2
set_option Elab.async false
set_option linter.all false
set_option maxRecDepth 100000
set_option maxHeartbeats 4000000
namespace L2
open PySem PySem.Spec PyProof.Rows
/-! ### lists of data: shape and equality -/
section
variable {α : Type} (f : α → PyData)
theorem canAll_map : ∀ (l : List α), (∀ x ∈ l, (f x).canLay0 = true) → PyData.canLayAll0 (l.map f) = true
  | [], _ => rfl
  | a :: l, h => by
    show (PyData.canLay0 (f a) && PyData.canLayAll0 (l.map f)) = true
    rw [h a List.mem_cons_self, canAll_map l fun x hx => h x (List.mem_cons_of_mem _ hx)]; rfl
theorem depthAll_map (k : Nat) : ∀ (l : List α), (∀ x ∈ l, (f x).depth ≤ k) → PyData.depthAll (l.map f) ≤ k
  | [], _ => Nat.zero_le _
  | a :: l, h => by
    show max (PyData.depth (f a)) (PyData.depthAll (l.map f)) ≤ k
    exact Nat.max_le.mpr ⟨h a List.mem_cons_self, depthAll_map k l fun x hx => h x (List.mem_cons_of_mem _ hx)⟩
theorem shaped_list {l : List α} (k : Nat) (hk : k < 64) (h1 : ∀ x ∈ l, (f x).canLay0 = true) (h2 : ∀ x ∈ l, (f x).depth ≤ k) : SeqAt.shaped (.list (l.map f)) = true := by
  unfold SeqAt.shaped
  have e1 : PyData.canLay0 (.list (l.map f)) = true := canAll_map f l h1
  have e2 : PyData.depth (.list (l.map f)) ≤ 64 := by
    show PyData.depthAll (l.map f) + 1 ≤ 64
    have := depthAll_map f k l h2
    omega
  rw [e1, decide_eq_true e2]; rfl
theorem eqvAll_map [DecidableEq α] (h : ∀ x y, PyData.eqv (f x) (f y) = decide (x = y)) : ∀ (l m : List α), PyData.eqvAll (l.map f) (m.map f) = decide (l = m)
  | [], [] => rfl
  | [], _ :: _ => by simp only [List.map_nil, List.map_cons, PyData.eqvAll]; exact (decide_eq_false (by intro z; cases z)).symm
  | _ :: _, [] => by simp only [List.map_nil, List.map_cons, PyData.eqvAll]; exact (decide_eq_false (by intro z; cases z)).symm
  | a :: l, b :: m => by
    simp only [List.map_cons, PyData.eqvAll]
    rw [h a b, eqvAll_map h l m]
    by_cases e1 : a = b
    · subst e1
      by_cases e2 : l = m
      · subst e2; simp
      · simp [e2]
    · simp [e1]
theorem eqv_list [DecidableEq α] (h : ∀ x y, PyData.eqv (f x) (f y) = decide (x = y)) (l m : List α) : PyData.eqv (.list (l.map f)) (.list (m.map f)) = decide (l = m) := by
  simp only [PyData.eqv]; exact eqvAll_map f h l m
end
theorem dat_list {H : Hp} {a : Addr} {vs : List V} {ds : List PyData} (h : H a = some (.lst vs)) (d : Dats H vs ds) : Dat H (.ref a) (.list ds) := by
  simp only [Dat]
  exact ⟨a, vs, rfl, h, d⟩
theorem isi_int_int (K : PySem.W.Frag) : PySem.W.kitOne K (.type "int") (.type "int") = some true := rfl
theorem isi_int_bool (K : PySem.W.Frag) : PySem.W.kitOne K (.type "int") (.type "bool") = some false := by kernel_rfl
theorem isi_list_list (K : PySem.W.Frag) : PySem.W.kitOne K (.type "list") (.type "list") = some true := rfl
theorem isi_tuple_tuple (K : PySem.W.Frag) : PySem.W.kitOne K (.type "tuple") (.type "tuple") = some true := rfl
end L2
namespace L2
open PySem
theorem cut_take (xs : List V) (k : Nat) : cutV xs none (some (k : Int)) = xs.take k := by
  unfold cutV
  rw [HT.sIx_none, HT.sIx_nat, List.drop_zero, Nat.sub_zero]
  by_cases h : k ≤ xs.length
  · rw [Nat.min_eq_left h]
  · rw [Nat.min_eq_right (by omega), List.take_of_length_le (Nat.le_refl _), List.take_of_length_le (by omega)]
theorem cut_drop (xs : List V) (k : Nat) : cutV xs (some (k : Int)) none = xs.drop k := by
  unfold cutV
  rw [HT.sIx_none, HT.sIx_nat]
  by_cases h : k ≤ xs.length
  · rw [Nat.min_eq_left h, List.take_of_length_le (by rw [List.length_drop]; exact Nat.le_refl _)]
  · rw [Nat.min_eq_right (by omega), Nat.sub_self, List.take_zero, List.drop_of_length_le (by omega)]
end L2
set_option Elab.async false
set_option linter.all false
set_option maxRecDepth 100000
set_option maxHeartbeats 4000000
namespace PySem.W
open PySem PySem.Spec PySem.Calls PyProof.Rows
section
variable {prog : Program} {w : World} {A : Around} {E : Value → Shared → Prop} {s : Shared} {K : Frag} {x D : Addr} {ox : Obj} {odo : Option Obj} {name : Str}
end
/-- what the text's class of exceptions must have -/
structure XCls (K : Frag) (D : Addr) : Prop where
  hga : findIn K (.ref D) "__getattribute__" = some (some (.builtin "BaseException.__getattribute__"))
  hk : findIn K (.ref D) "__getattr__" = some none
  hB : mroIn K D (.type "BaseException") = some true
  hc : (clsIn K D).isSome = true
  ha : findIn K (.ref D) "__class__" = some (some (.builtin "object.__class__"))
  hn : specialIn K (.builtin "object.__class__") "__get__" = some (some (.builtin "getset_descriptor.__get__"))
  htk : takesIn K (.builtin "object.__class__") = some true
  hm : mroIn K D (.type "object") = some true
end PySem.W
set_option Elab.async false
set_option linter.all false
set_option maxRecDepth 100000
set_option maxHeartbeats 4000000
namespace L2
open PySem PySem.Spec PyProof.Rows

/-! ### an exception and its record -/
/-- the exception at e: of the class cls, its dict at dx; fl: none, no record yet; some f: its record's flight is f, the record lies where lo says -/
def XObj (h : Heap) (e : Addr) (cls : Value) (dx : Option Addr) (lo : Addr → Prop) : Option Value → Prop
  | none => ∃ oe vs, h.get? e = some oe ∧ oe.cls = cls ∧ oe.dict = dx ∧ oe.data = .fields vs ∧ vs[1]? = some .none
  | some f => ∃ oe vs T oT ts, h.get? e = some oe ∧ oe.cls = cls ∧ oe.dict = dx ∧ oe.data = .fields vs ∧ vs[1]? = some (.ref T) ∧ lo T ∧ T ≠ e ∧ h.get? T = some oT ∧ oT.data = .fields ts ∧ ts[3]? = some f
section
variable {M : Model} {A : Around} {E : Value → Shared → Prop} {s : Shared} {base : Heap} {env : Env} {outer : List Env} {L e : Addr}
/-- what a note leaves: all but the frames' slots, the exception and old records -/
structure Noted (fr : List Addr) (e : Addr) (lo : Addr → Prop) (h h' : Heap) : Prop where
  keep : ∀ b o, h.get? b = some o → b ∉ fr → b ≠ e → ¬ lo b → h'.get? b = some o
  slot : ∀ b o, h.get? b = some o → b ∈ fr → b ≠ e → ¬ lo b → ∃ sl, h'.get? b = some { o with slots := sl }
  there : ∀ b o, h.get? b = some o → ∃ o', h'.get? b = some o'
theorem Noted.trans {fr : List Addr} {lo : Addr → Prop} {h h1 h2 : Heap} (a : Noted fr e lo h h1) (b : Noted fr e lo h1 h2) : Noted fr e lo h h2 where
  keep := fun c o q n1 n2 n3 => b.keep c o (a.keep c o q n1 n2 n3) n1 n2 n3
  slot := fun c o q n1 n2 n3 => by
    obtain ⟨sl, q1⟩ := a.slot c o q n1 n2 n3
    obtain ⟨sl2, q2⟩ := b.slot c _ q1 n1 n2 n3
    exact ⟨sl2, q2⟩
  there := fun c o q => by
    obtain ⟨o1, q1⟩ := a.there c o q
    exact b.there c o1 q1
theorem upd_fields {h : Heap} {a : Addr} {o : Obj} {vs : Array Value} (q : h.get? a = some o) (d : o.data = .fields vs) (i : Nat) (v : Value) :
    (h.update a (Obj.mapFields (·.setIfInBounds i v))).get? a = some (Obj.mapFields (·.setIfInBounds i v) o) ∧ (Obj.mapFields (·.setIfInBounds i v) o).data = .fields (vs.setIfInBounds i v) ∧
      (Obj.mapFields (·.setIfInBounds i v) o).cls = o.cls ∧ (Obj.mapFields (·.setIfInBounds i v) o).dict = o.dict := by
  have d2 := Obj.data_mapFields d (·.setIfInBounds i v)
  refine ⟨Heap.get?_update_self _ q (Obj.isFreed_of_fields d2), d2, Obj.cls_mapFields _ _, ?_⟩
  obtain ⟨c, dd, dt, sl⟩ := o
  simp only at d
  subst d
  rfl
/-- a record is laid and named by the exception -/
theorem xentry {oe : Obj} {vs : Array Value} {head : Value} {hadNext : Bool} {cls : Value} {dx : Option Addr} {lo : Addr → Prop} {Q : Unit → Shared → Prop} (hfr : A.frames = some (env :: outer)) (hl : s.heap.FunFrames base (env :: outer)) (hf : env.frame = some L)
    (he : s.heap.get? e = some oe) (hd : oe.data = .fields vs) (hsz : 1 < vs.size) (hc : oe.cls = cls) (hdx : oe.dict = dx) (hlo : ∀ T, s.heap.get? T = none → lo T)
    (h : ∀ h', Noted (frs (env :: outer)) e lo s.heap h' → XObj h' e cls dx lo (some (rawInt L)) → Q () { s with heap := h' }) :
    wpAny M A (do let a ← frameOf env; let pl ← entryPlaceOf L hadNext; let b ← EntryCells.newEntry head a .none (rawInt L) .none pl; setField (.ref e) 1 b) Q E s := by
  have nfr : e ∉ frs (env :: outer) := fun hm => by
    obtain ⟨_, o, q, nf⟩ := hl.mem hm
    rw [he] at q
    cases q
    exact nf vs hd
  refine wpAny_bind (wpAny_frameOf_fun hfr hl hf fun h1 hs1 => ?_)
  refine wpAny_bind (wpAny_entryPlaceOf fun pl hpl => ?_)
  unfold EntryCells.newEntry newFields
  refine wpAny_bind (wpAny_newObj_type ?_ (hpl.sizeOk5 _ _ _ _ _))
  generalize hob : ({ cls := .type "traceback", dict := none, data := .fields ([head, .ref L, .none, rawInt L, .none] ++ (if pl.isEmpty then List.replicate 6 Value.none else pl)).toArray } : Obj) = ob
  have q1 : h1.get? e = some oe := (hs1.2.1 e nfr).trans he
  have q2 := Heap.get?_push_of_some (h := h1) ob q1
  have nTe : h1.objs.size ≠ e := Nat.ne_of_gt (Heap.lt_size q1)
  have sizes : h1.objs.size = s.heap.objs.size := hs1.1
  have newT : s.heap.get? h1.objs.size = none := Heap.get?_none_of_le (by rw [sizes]; exact Nat.le_refl _)
  refine wpAny_setField q2 hd hsz (h _ ⟨fun b o q n1 n2 n3 => ?_, fun b o q n1 n2 n3 => ?_, fun b o q => ?_⟩ ?_)
  · rw [Heap.get?_update_other _ _ (Ne.symm n2)]
    exact Heap.get?_push_of_some _ ((hs1.2.1 b n1).trans q)
  · obtain ⟨sl, q3⟩ := hs1.2.2 b o q
    refine ⟨sl, ?_⟩
    rw [Heap.get?_update_other _ _ (Ne.symm n2)]
    exact Heap.get?_push_of_some _ q3
  · obtain ⟨sl, q3⟩ := hs1.2.2 b o q
    by_cases hb : b = e
    · subst hb
      exact ⟨_, (upd_fields q2 hd 1 _).1⟩
    · refine ⟨{ o with slots := sl }, ?_⟩
      rw [Heap.get?_update_other _ _ (Ne.symm hb)]
      exact Heap.get?_push_of_some _ q3
  · obtain ⟨u1, u2, u3, u4⟩ := upd_fields q2 hd 1 (Value.ref h1.objs.size)
    refine ⟨_, _, h1.objs.size, ob, _, u1, u3.trans hc, u4.trans hdx, u2, by simp [hsz], hlo _ newT, nTe, ?_, by rw [← hob], ?_⟩
    · rw [Heap.get?_update_other _ _ (Ne.symm nTe)]
      exact Heap.get?_push_size _ (by rw [← hob]; rfl)
    · first | (simp; done) | (rcases hpl with rfl | ⟨_, _, _, _, _, _, _, rfl⟩ <;> simp)
/-- an exception without record, or with one that is not in flight, is noted at a frame -/
theorem xnote {cls : Value} {dx : Option Addr} {lo : Addr → Prop} {Q : Unit → Shared → Prop} {fl : Option Value} (hfl : fl = none ∨ fl = some .none) (hfr : A.frames = some (env :: outer)) (hl : s.heap.FunFrames base (env :: outer)) (hf : env.frame = some L)
    (x : XObj s.heap e cls dx lo fl) (hlo : ∀ T, s.heap.get? T = none → lo T)
    (h : ∀ h', Noted (frs (env :: outer)) e lo s.heap h' → XObj h' e cls dx lo (some (rawInt L)) → Q () { s with heap := h' }) : wpAny M A (noteFrame (.ref e) env) Q E s := by
  unfold noteFrame
  simp only [hf]
  rcases hfl with rfl | rfl
  · obtain ⟨oe, vs, he, hc, hdx, hd, h1⟩ := x
    refine wpAny_bind (wpAny_field he hd h1 ?_)
    rw [if_neg (by decide)]
    exact xentry hfr hl hf he hd (Array.getElem?_eq_some_iff.mp h1).1 hc hdx hlo h
  · obtain ⟨oe, vs, T, oT, ts, he, hc, hdx, hd, h1, hT, nT, hgT, hdT, h3⟩ := x
    refine wpAny_bind (wpAny_field he hd h1 ?_)
    rw [if_pos (show (Value.ref T != Value.none) = true from by simp)]
    refine wpAny_bind (wpAny_field hgT hdT h3 ?_)
    rw [if_neg (show ¬ ((Value.none == rawInt L) = true) from by simp [rawInt])]
    have hs3 : 3 < ts.size := (Array.getElem?_eq_some_iff.mp h3).1
    refine wpAny_bind (wpAny_setField hgT hdT hs3 ?_)
    have oth : ∀ b, b ≠ T → (s.heap.update T (Obj.mapFields (·.setIfInBounds 3 Value.none))).get? b = s.heap.get? b := fun b hb => Heap.get?_update_other _ _ (Ne.symm hb)
    obtain ⟨u1, u2, u3, u4⟩ := upd_fields hgT hdT 3 Value.none
    have n0 : Noted (frs (env :: outer)) e lo s.heap (s.heap.update T (Obj.mapFields (·.setIfInBounds 3 Value.none))) := by
      have nb : ∀ b, ¬ lo b → b ≠ T := fun b hb z => hb (by rw [z]; exact hT)
      refine ⟨fun b o q _ _ n3 => (oth b (nb b n3)).trans q, fun b o q _ _ n3 => ⟨o.slots, (oth b (nb b n3)).trans q⟩, fun b o q => ?_⟩
      by_cases hb : b = T
      · subst hb; exact ⟨_, u1⟩
      · exact ⟨o, (oth b hb).trans q⟩
    have ffs : (s.heap.update T (Obj.mapFields (·.setIfInBounds 3 Value.none))).FunFrames base (env :: outer) := hl.of_keeps fun b o q nf => by
      by_cases hb : b = T
      · subst hb; rw [hgT] at q; cases q; exact absurd hdT (nf ts)
      · exact ⟨o, (oth b hb).trans q, rfl⟩
    refine xentry (s := { s with heap := s.heap.update T (Obj.mapFields (·.setIfInBounds 3 Value.none)) }) hfr ffs hf ((oth e (Ne.symm nT)).trans he) hd (Array.getElem?_eq_some_iff.mp h1).1 hc hdx (fun T' z => ?_) fun h' n1 x1 => h h' (n0.trans n1) x1
    by_cases hb : T' = T
    · rw [hb]; exact hT
    · exact hlo T' ((oth T' hb).symm.trans z)
/-- its flight is ended -/
theorem xland {cls : Value} {dx : Option Addr} {lo : Addr → Prop} {Q : Unit → Shared → Prop} {fr : List Addr} {f : Value} (x : XObj s.heap e cls dx lo (some f)) 
    (h : ∀ h', Noted fr e lo s.heap h' → XObj h' e cls dx lo (some .none) → Q () { s with heap := h' }) : wpAny M A (setFlight (.ref e) none) Q E s := by
  obtain ⟨oe, vs, T, oT, ts, he, hc, hdx, hd, h1, hT, nT, hgT, hdT, h3⟩ := x
  have hs3 : 3 < ts.size := (Array.getElem?_eq_some_iff.mp h3).1
  unfold setFlight
  refine wpAny_bind (wpAny_field he hd h1 ?_)
  rw [if_pos (show (Value.ref T != Value.none) = true from by simp)]
  have oth : ∀ b, b ≠ T → (s.heap.update T (Obj.mapFields (·.setIfInBounds 3 Value.none))).get? b = s.heap.get? b := fun b hb => Heap.get?_update_other _ _ (Ne.symm hb)
  obtain ⟨u1, u2, u3, u4⟩ := upd_fields hgT hdT 3 Value.none
  have nb : ∀ b, ¬ lo b → b ≠ T := fun b hb z => hb (by rw [z]; exact hT)
  refine wpAny_setField hgT hdT hs3 (h _ ⟨fun b o q _ _ n3 => (oth b (nb b n3)).trans q, fun b o q _ _ n3 => ⟨o.slots, (oth b (nb b n3)).trans q⟩, fun b o q => ?_⟩ ?_)
  · by_cases hb : b = T
    · subst hb; exact ⟨_, u1⟩
    · exact ⟨o, (oth b hb).trans q⟩
  · exact ⟨oe, vs, T, _, _, (oth e (Ne.symm nT)).trans he, hc, hdx, hd, h1, hT, nT, u1, u2, by simp [hs3]⟩
end

section
variable {X : Cx} {pins : List (Addr × Obj)} {σ : St} {H : Hp} {s : Shared} {e : Addr}
theorem ObjOk.there {P : Program} {w : World} {H : Hp} {h : Heap} {a : Addr} {o : HO} (x : ObjOk P w H h a o) : ∃ ob, h.get? a = some ob := by
  induction o with
  | lst xs => obtain ⟨_, _, _, _, q⟩ := x; exact ⟨_, q⟩
  | tup xs => obtain ⟨_, _, _, ob, q, _⟩ := x; exact ⟨ob, q⟩
  | dK kvs => obtain ⟨_, _, _, _, ob, _, _, q, _⟩ := x; exact ⟨ob, q⟩
  | dT kvs => obtain ⟨_, _, _, _, ob, _, _, q, _⟩ := x; exact ⟨ob, q⟩
  | set S n => obtain ⟨ob, _, _, _, q, _⟩ := x; exact ⟨ob, q⟩
  | ins C dx fs => obtain ⟨_, _, _, q, _⟩ := x; exact ⟨_, q⟩
  | own y => exact x
  | xd fs => obtain ⟨_, ⟨ob, _, _, q, _⟩, _⟩ := x; exact ⟨ob, q⟩
  | rng lo hi => obtain ⟨_, _, _, q⟩ := x; exact ⟨_, q⟩
  | frz ob u ih => exact ⟨ob, x.1⟩
  | tbl ps => exact ⟨_, x⟩
  | met f y => exact ⟨_, x⟩
  | ext φ => exact x.2.1
/-- an address of the exception's own: not tracked, not of the frame's, unknown at the entry -/
def XFp (X : Cx) (pins : List (Addr × Obj)) (H : Hp) (b : Addr) : Prop :=
  H b = none ∧ b ≠ X.env.locals ∧ b ∉ X.fs ∧ X.s₀.heap.get? b = none ∧ (∀ x c, X.env.cells.lookup x = some c → c ≠ b) ∧ ∀ p ∈ X.pn ++ pins, p.1 ≠ b
theorem Inv.xfp (I : Inv X pins σ H s) (hx : X.ex = []) {b : Addr} (hb : s.heap.get? b = none) : XFp X pins H b := by
  refine ⟨?_, fun z => ?_, fun z => ?_, ?_, fun x c q z => ?_, fun p hp z => ?_⟩
  · cases q : H b with
    | none => rfl
    | some o =>
      obtain ⟨ob, r⟩ := (I.hok b o q).there
      rw [hb] at r; cases r
  · obtain ⟨m, ⟨o, _, _, r, _⟩, _⟩ := I.loc
    rw [← z, hb] at r; cases r
  · obtain ⟨_, o, r, _⟩ := I.funs.mem z
    rw [hb] at r; cases r
  · cases q : X.s₀.heap.get? b with
    | none => rfl
    | some o =>
      obtain ⟨o', r⟩ := I.base.there b o q (by rw [hx]; simp)
      rw [hb] at r; cases r
  · obtain ⟨v, o, r, _⟩ := I.cell x c q
    rw [z, hb] at r; cases r
  · obtain ⟨r, _⟩ := I.pin p hp
    rw [z, hb] at r; cases r
/-- a note leaves the frame's state -/
theorem Inv.noted {lo : Addr → Prop} {h' : Heap} (I : Inv X pins σ H s) (n : Noted (frs X.stack) e lo s.heap h') (hlo : ∀ b, (b = e ∨ lo b) → XFp X pins H b ∨ s.heap.get? b = none) : Inv X pins σ H { s with heap := h' } := by
  have off : ∀ b o, s.heap.get? b = some o → (¬ XFp X pins H b) → b ≠ e ∧ ¬ lo b := fun b o q nx =>
    ⟨fun z => (hlo b (.inl z)).elim nx fun r => (by rw [r] at q; cases q), fun z => (hlo b (.inr z)).elim nx fun r => (by rw [r] at q; cases q)⟩
  have any : ∀ b o, s.heap.get? b = some o → (¬ XFp X pins H b) → ∃ sl, h'.get? b = some { o with slots := sl } := fun b o q nx => by
    obtain ⟨n1, n2⟩ := off b o q nx
    by_cases hb : b ∈ frs X.stack
    · exact n.slot b o q hb n1 n2
    · exact ⟨o.slots, n.keep b o q hb n1 n2⟩
  have s0 : ∀ b o, X.s₀.heap.get? b = some o → ¬ XFp X pins H b := fun b o q x => by rw [x.2.2.2.1] at q; cases q
  have neL : ∀ b o, X.s₀.heap.get? b = some o → b ≠ X.env.locals := fun b o q => Nat.ne_of_lt (Nat.lt_of_lt_of_le (Heap.lt_size q) I.ok.above)
  have nst : ∀ b, b ≠ X.env.locals → b ∉ X.fs → b ∉ frs X.stack := fun b n1 n2 z => (List.mem_cons.mp (I.stkSub b z)).elim n1 n2
  have trk : ∀ b o, H b = some o → ¬ XFp X pins H b := fun b o q x => by rw [x.1] at q; cases q
  have trkf : ∀ b o, H b = some o → b ∉ frs X.stack := fun b o q z => by rw [I.stkFree b z] at q; cases q
  have cl : ∀ x c, X.env.cells.lookup x = some c → ∀ v, s.heap.IsCell c v → h'.IsCell c v := fun x c q v ⟨o, ho, hd⟩ => by
    obtain ⟨sl, r⟩ := any c o ho fun z => z.2.2.2.2.1 x c q rfl
    exact ⟨_, r, hd⟩
  refine ⟨I.ok, I.os, I.bare, ⟨fun b o q nn hb hx => ?_, fun b o q nn hb hx => ?_, I.base.free, fun b o q hx => ?_, I.base.tups, I.base.frzs, I.base.tbls⟩, ?_, fun x c q => ?_, I.free, I.freeC, fun p hp => ?_, fun a o q => ?_, I.len⟩
  · have q1 := I.base.keep b o q nn hb hx
    obtain ⟨n1, n2⟩ := off b o q1 (s0 b o q)
    exact n.keep b o q1 (nst b (neL b o q) hb) n1 n2
  · obtain ⟨sl, q1⟩ := I.base.slot b o q nn hb hx
    obtain ⟨sl2, q2⟩ := any b _ q1 (s0 b o q)
    exact ⟨sl2, q2⟩
  · obtain ⟨o1, q1⟩ := I.base.there b o q hx
    exact n.there b o1 q1
  · obtain ⟨m, ⟨ob, es, ep, ho, r⟩, hl⟩ := I.loc
    obtain ⟨sl, q1⟩ := any _ ob ho fun z => z.2.1 rfl
    refine ⟨m, ⟨_, es, ep, q1, r⟩, fun i x v e1 e2 e3 => ?_⟩
    obtain ⟨u, ru, l⟩ := hl i x v e1 e2 e3
    refine ⟨u, ru, ?_⟩
    rcases l with l | ⟨k, c, hc, z⟩
    · exact .inl l
    · exact .inr ⟨k, c, hc, cl x c hc _ z⟩
  · obtain ⟨v, z⟩ := I.cell x c q
    exact ⟨v, cl x c q v z⟩
  · obtain ⟨q, nn, n1, n2, d⟩ := I.pin p hp
    obtain ⟨m1, m2⟩ := off p.1 p.2 q fun z => z.2.2.2.2.2 p hp rfl
    exact ⟨n.keep p.1 p.2 q (nst p.1 n1 n2) m1 m2, nn, n1, n2, d⟩
  · refine (I.hok a o q).stay (fun b u hb r => ?_) (fun _ z => z) fun _ _ z => z
    rcases hb with rfl | hb
    · obtain ⟨m1, m2⟩ := off b u r (trk b o q)
      exact n.keep b u r (trkf b o q) m1 m2
    · obtain ⟨m1, m2⟩ := off b u r (trk b _ hb)
      exact n.keep b u r (trkf b _ hb) m1 m2

/-- how an exception lies behind a call -/
def CX1 (P : Program) (w : World) : CXT := fun outer H s E ev s' => ∃ (e : Addr) (cls : Value) (dx : Option Addr) (H' : Hp), ev = .ref e ∧ s'.os = s.os ∧ AllBare s'.gens ∧ Un (frs outer) [] H H' s.heap s'.heap ∧ HOk P w H' s'.heap ∧
  s.heap.get? e = none ∧ H' e = none ∧ XObj s'.heap e cls dx (fun T => s.heap.get? T = none ∧ H' T = none) (some .none) ∧ E cls dx H'
/-- exceptions that fulfil E may come up in this body, at a state of the frame -/
def Rz (X : Cx) (E : St → XK) : Prop := ∀ (pins : List (Addr × Obj)) (σ : St) (H : Hp) (s : Shared) (e : Addr) (cls : Value) (dx : Option Addr) (fl : Option Value), (fl = none ∨ fl = some .none) → Inv X pins σ H s → XFp X pins H e →
  XObj s.heap e cls dx (XFp X pins H) fl → E σ cls dx H → X.xe (.ref e) s
theorem XObj.imp {h : Heap} {e : Addr} {cls : Value} {dx : Option Addr} {lo lo' : Addr → Prop} {f : Option Value} (x : XObj h e cls dx lo f) (k : ∀ T, (∃ o, h.get? T = some o) → lo T → lo' T) : XObj h e cls dx lo' f := by
  cases f with
  | none => exact x
  | some f =>
    obtain ⟨oe, vs, T, oT, ts, he, hc, hdx, hd, h1, hT, nT, hgT, r⟩ := x
    exact ⟨oe, vs, T, oT, ts, he, hc, hdx, hd, h1, k T ⟨oT, hgT⟩ hT, nT, hgT, r⟩
/-- a callee's exception reaches the body's wish -/
theorem passes1 {E : St → XK} {σ : St} (hx : X.ex = []) (R : Rz X E) {pins : List (Addr × Obj)} {H : Hp} {s s' : Shared} {ev : Value} (I : Inv X pins σ H s) (c : CX1 X.prog X.w X.stack H s (E σ) ev s') : X.xe ev s' := by
  obtain ⟨e, cls, dx, H', rfl, ho, hg, u, hok, ne, he, x, q⟩ := c
  have I' : Inv X pins σ H' s' := I.call' (ch := []) ho u hok hg (fun b hb => by cases hb)
  have fp : ∀ T, s.heap.get? T = none → H' T = none → XFp X pins H' T := fun T h1 h2 => by
    obtain ⟨_, a2, a3, a4, a5, a6⟩ := I.xfp hx h1
    exact ⟨h2, a2, a3, a4, a5, a6⟩
  exact R pins σ H' s' e cls dx _ (.inr rfl) I' (fp e ne he) (x.imp fun T _ z => fp T z.1 z.2) q
/-- .. leaves a def's body -/
theorem rz_leave {P : Program} {w : World} {K : PySem.W.Frag} {mg : Str → Option Value} {base : Heap} {N : List Str} {qual : Str} {scope : Scope} {f : Addr} {cd : Value} {A : Around} {outer : List Env} {s : Shared} {H : Hp} {E : XK} :
    Rz (cxOf (CX1 P w) P w K mg base N qual scope f cd A outer s H E) (fun _ => E) := by
  intro pins σ H1 s1 e cls dx fl hfl I fe x q
  show wpAny (model P w) _ (leaving _ (.ref e)) _ _ s1
  unfold leaving
  have lo1 : ∀ b, (b = e ∨ (XFp (cxOf (CX1 P w) P w K mg base N qual scope f cd A outer s H E) pins H1 b ∨ s1.heap.get? b = none)) → XFp (cxOf (CX1 P w) P w K mg base N qual scope f cd A outer s H E) pins H1 b ∨ s1.heap.get? b = none := fun b z => z.elim (fun z => .inl (by rw [z]; exact fe)) fun z => z
  have stk : (cxOf (CX1 P w) P w K mg base N qual scope f cd A outer s H E).A.frames = some ((cxOf (CX1 P w) P w K mg base N qual scope f cd A outer s H E).env :: outer) := I.ok.frames
  refine wpAny_bind (xnote (base := base) (lo := fun T => XFp (cxOf (CX1 P w) P w K mg base N qual scope f cd A outer s H E) pins H1 T ∨ s1.heap.get? T = none) hfl stk I.stack rfl (x.imp fun T _ z => .inl z) (fun T z => .inr z) fun h1 n1 x1 => ?_)
  refine xland (fr := frs ((cxOf (CX1 P w) P w K mg base N qual scope f cd A outer s H E).env :: outer)) x1 fun h2 n2 x2 => ?_
  have I2 : Inv (cxOf (CX1 P w) P w K mg base N qual scope f cd A outer s H E) pins σ H1 { s1 with heap := h2 } := I.noted (n1.trans n2) lo1
  refine ⟨e, cls, dx, H1, rfl, I2.os, I2.bare, I2.base, I2.hok, fe.2.2.2.1, fe.1, x2.imp fun T _ z => ?_, q⟩
  rcases z with z | z
  · exact ⟨z.2.2.2.1, z.1⟩
  · have y := I.xfp rfl z
    exact ⟨y.2.2.2.1, y.1⟩
end
end L2
set_option Elab.async false
set_option linter.all false
set_option maxRecDepth 100000
set_option maxHeartbeats 4000000
namespace L2
open PySem PySem.Spec PyProof.Rows

/-! ### calls that may raise -/
def FnAtX (P : Program) (w : World) (K : PySem.W.Frag) (mg : Str → Option Value) (base : Heap) (k : Nat) (x : Str) (ps : List Str) (sp : Sp) : Prop :=
  ∃ f fd, FnOk P w K mg base (CX1 P w) k f fd ps sp ∧ mg x = some (.ref f) ∧ PySem.W.keepIn K (.ref f) = true ∧ Binds K fd ps []
def tCallX (sp : Sp) (E : St → XK) (t : TA) : TE := fun σ H Q => t σ H fun vs H1 => sp vs H1 Q (E σ)
section
variable {X : Cx} {k : Nat} {x : Str} {ps : List Str} {sp : Sp} {e : Expr} {es : List Expr} {t : TA} {p pos : Pos} {E : St → XK}
theorem pe_fnX (F : FnAtX X.prog X.w X.K X.mg X.base k x ps sp) (hx : X.ex = []) (R : Rz X E) (hr : Room k X.A) (hg : Gl X x) (ha : PA X (e :: es) t) (hd : (x == ("__debug__" : Str)) = false := by decide)
    (he : starEach (e :: es) X.env = (false, eval e X.env) :: starEach es X.env := by rfl) (hpl : (backTo pos (starEach es X.env)).any (·.1) = false := by rfl) :
    PE X (.Call (.Name x p) (e :: es) [] pos) (tCallX sp E t) := by
  obtain ⟨f, fd, G, hm, hk, hb⟩ := F
  intro pins s σ H Q I h
  refine wpAny_Call_Name_kw (ld_glob I hg hm ?_ hd)
  refine PySem.W.callWith_K (h₀ := X.base) I.ok.mod.kin hk (thn (ha pos pins s σ H _ I h) fun us s1 ⟨vs, H1, I1, r, q⟩ => ⟨I1.kIn, ?_⟩) he hpl
  have hlen : us.length = ps.length := by rw [← r.length]; exact G.len _ _ _ _ q
  have hbd := hb s1 us I1.kIn (by rw [List.append_nil]; exact hlen)
  rw [List.append_nil] at hbd
  refine wpAny_call (codeAny_mono (G.run X.A X.stack s1 H1 ⟨us, []⟩ us vs Q (E σ) hr I1.env0 hbd r q) fun res s' hq => ?_)
  match res, hq with
  | .error ev, hq => exact passes1 hx R I1 hq
  | .ok (.ret u), hq => exact I1.after hq
end
section
variable {P : Program} {w : World} {K : PySem.W.Frag} {mg : Str → Option Value} {base : Heap}
/-- a def whose exceptions leave it -/
theorem Fun.okX {x qual : Str} {st : Stmt} {f : Addr} {fd : FuncData} {N ps : List Str} {k : Nat} {sp : Sp} (F : Fun K x qual st f fd) (S : FnScope N ps (defScope st)) (len : ∀ vs H Q E, sp vs H Q E → vs.length = ps.length)
    (hbody : ∀ (cdv : Value) (A : Around) (outer : List Env) (s : Shared) (H : Hp) (vs : List V) (Q : VK) (E : XK), Room k (A.deeper (envOfC qual (defScope st) s.heap.objs.size f cdv)) → sp vs H Q E →
      Rz (cxOf (CX1 P w) P w K mg base N qual (defScope st) f cdv A outer s H E) (fun _ => E) →
      ∃ t, PSs (cxOf (CX1 P w) P w K mg base N qual (defScope st) f cdv A outer s H E) (defBody st) t ∧ t { nx := fun _ H' => Q .non H', rt := Q } (start N vs) H) : FnOk P w K mg base (CX1 P w) (k + 1) f fd ps sp := by
  obtain ⟨oc, od, kV, doc, pm, an, cdv, ct, osl, rfl, lk, hcd⟩ := F.ex
  exact fn_of lk hcd S len fun A outer s H vs Q E hr hsp => hbody cdv A outer s H vs Q E hr hsp rz_leave
end

/-! ### raise C(..), C an own class without an __init__ -/
theorem exc_obj {K : PySem.W.Frag} {h : Heap} {C : Addr} {bmB : List Value} {newId : String} (X : K.In h) (q : PySem.W.excIn K C bmB newId = true) :
    ∃ bm N nm qn bs hdct sn sub ab col dd k0 k1 k2 k3 k5 mN, h.get? C = some (excClassObj nm qn C N bs bm hdct sn sub ab col dd k0 k1 k2 k3 k5 newId) ∧ h.Ns N mN ∧ mN "__init__" = none ∧ OwnTail h bmB bm := by
  unfold PySem.W.excIn at q
  split at q
  · rename_i d0 c0 s0 lk
    split at q
    · rename_i C1 tl a0 a1 a2 a3 nn a5 em es
      simp only [Bool.and_eq_true, beq_iff_eq, Bool.not_eq_true'] at q
      obtain ⟨⟨⟨⟨⟨e1, e2⟩, e3⟩, e4⟩, e5⟩, e6⟩ := q
      subst e1 e2
      obtain ⟨f1, f2, f3, f4, f5, f6, f7, f8, f9, f10, f11⟩ := c0
      dsimp only at em e3 e5 e6
      subst em e3
      have ez : s0 = #[a0, a1, a2, a3, some (.builtin nn), a5] := by
        obtain ⟨l⟩ := s0
        simp only at es
        rw [es]
      subst ez
      exact ⟨tl, f4, _, _, _, _, _, _, _, _, _, _, _, _, _, _, _, X _ _ lk, .of_isNs (PySem.W.isNs_of_in X e5), PySem.W.nsMap_none_of_in X e5 e6, PySem.W.tail_of_in X e4⟩
    · cases q
  · cases q
def tRaise (cls : Value) (E : St → XK) (ta : TA) : TS := fun _ σ H => ta σ H fun vs H1 => vs.length ≤ sizeLine ∧ E σ cls none H1
section
variable {X : Cx} {E : St → XK} {x : Str} {C : Addr} {B newId initId : String} {bmB : List Value} {e0 : Expr} {rest : List Expr} {ta : TA} {np cpos pos : Pos}
theorem ps_raise (FB : ExcBaseFacts B newId initId bmB) (q : PySem.W.excIn X.K C bmB newId = true) (hm : X.mg x = some (.ref C)) (hg : Gl X x) (hc : X.calm = true) (hx : X.ex = []) (R : Rz X E) (ha : PA X (e0 :: rest) ta)
    (he : starEach (e0 :: rest) X.env = (false, eval e0 X.env) :: starEach rest X.env := by rfl) (hplain : (backTo cpos (starEach rest X.env)).any (·.1) = false := by rfl) (hd : (x == ("__debug__" : Str)) = false := by decide) :
    PS X (.Raise (some (.Call (.Name x np) (e0 :: rest) [] cpos)) none pos) (tRaise (.ref C) E ta) := by
  intro pins s σ H D I h
  obtain ⟨bm, N, nm, qn, bs, hdct, sn, sub, ab, col, dd, k0, k1, k2, k3, k5, mN, hC, hN, hni, T⟩ := exc_obj I.ok.mod.kin q
  refine wpAny_Raise_call_subT (k5 := k5) (k3 := k3) (k2 := k2) (k1 := k1) (k0 := k0) (dd := dd) (col := col) (ab := ab) (sub := sub) (sn := sn) (hdct := hdct) (bs := bs) (q := qn) (nm := nm)
    (C := C) (N := N) (bm := bm) (mN := mN) FB (T.hasType FB.hasBase) (I.ok.hd hc) (by rw [he]; show (false || (backTo cpos (starEach rest X.env)).any (·.1)) = false; rw [hplain]; rfl) hni (ld_glob I hg hm ⟨rfl, ?_⟩ hd)
  have h2 := ha cpos pins s σ H _ I h
  rw [he] at h2 ⊢
  refine Calls.evalArgs_plain (thn h2 fun us s1 ⟨vs, H1, I1, r, hl, hE⟩ => ⟨rfl, by rw [← r.length]; exact hl, I1.bk _ _ hC, hN.keeps I1.bk, T.keeps I1.bk, fun h' e mk => ?_⟩)
  obtain ⟨t, ht, _, _⟩ := mk.there
  have I2 : Inv X pins σ H1 { s1 with heap := h' } := I1.kept (t' := s1.toks) mk.keeps
  exact R pins σ H1 _ e (.ref C) none none (.inl rfl) I2 (I1.xfp hx mk.new) ⟨_, _, ht, rfl, rfl, rfl, rfl⟩ hE
end

/-! ### try: .. except C as n: .. -/
section
variable {X : Cx} {pins : List (Addr × Obj)} {σ : St} {H : Hp} {s : Shared}
end

section
variable {M : Model} {A : Around} {Er : Value → Shared → Prop} {s : Shared} {K : PySem.W.Frag} {e C D : Addr}
end
end L2
set_option Elab.async false
set_option linter.all false
set_option maxRecDepth 100000
set_option maxHeartbeats 4000000
namespace L2
open PySem PySem.Spec PyProof.Rows
section
variable {X : Cx} {pins : List (Addr × Obj)} {σ : St} {H : Hp} {s : Shared}
end

/-- what of the text a class must have to be named by an except -/
structure XHd (K : PySem.W.Frag) (D : Addr) : Prop where
  cl : (PySem.W.clsIn K D).isSome = true
  ty : PySem.W.typeIn K (.ref D) = some (.type "type")
  bs : PySem.W.subIn K (.ref D) (.type "BaseException") = some true
section
variable {X : Cx} {body suite : List Stmt} {b0 : Stmt} {n cn : Str} {i : Nat} {Dc : Addr} {tb : (St → XK) → TS} {th : TS} {cp hpos pos : Pos}
end

/-! ### isinstance of a caught exception -/
section
variable {X : Cx} {K : PySem.W.Frag}
end
end L2
set_option Elab.async false
set_option linter.all false
set_option maxRecDepth 100000
set_option maxHeartbeats 4000000
namespace L2
open PySem PySem.Spec PyProof.Rows
section
variable {X : Cx} {K : PySem.W.Frag}
end
end L2
namespace L2
open PySem
/-- a class of the text's that is raised; another one beside it -/
structure Xr (K : PySem.W.Frag) (mg : Str → Option Value) (C : Addr) (nm : Str) : Prop where
  bd : mg nm = some (.ref C)
  hd : XHd K C
  xc : PySem.W.XCls K C
  ex : PySem.W.excIn K C [.type "ValueError", .type "Exception", .type "BaseException", .type "object"] "ValueError.__new__" = true
  ve : PySem.W.subIn K (.ref C) (.type "ValueError") = some true
end L2
set_option Elab.async false
set_option linter.all false
set_option maxRecDepth 100000
set_option maxHeartbeats 4000000
namespace L2
open PySem PySem.Spec PyProof.Rows

/-! ### several objects of an iterator turn -/
section
variable {X : Cx} {pins : List (Addr × Obj)} {σ : St} {H : Hp} {s : Shared} {h' : Heap}
theorem Inv.turnedL {t' : Nat} {fp : List Addr} (I : Inv X pins σ H s) (hf : ∀ b ∈ fp, FpOk X pins H b) (k : ∀ b o, b ∉ fp → s.heap.get? b = some o → h'.get? b = some o) : Inv X pins σ H { s with heap := h', toks := t' } := by
  have nit : ∀ b u, H b = some u → b ∉ fp := fun b u e z => by rw [(hf b z).1] at e; cases e
  refine I.step (g' := s.gens) (d' := s.drawn) (ch := fp) (fun b hb => ?_) (fun b o _ _ hc e _ => k b o hc e) (fun b o _ _ hc e _ => ⟨o.slots, k b o hc e⟩) (fun _ _ _ _ n => n)
    (fun b o hc e => ⟨o, k b o hc e⟩) (fun _ _ e => e) (fun _ _ _ e => e) (fun b ps e => ⟨#[], by rw [e]; simp⟩) (fun m hm => ?_) (fun b u e => ?_) I.bare
  · obtain ⟨f0, f1, f2, f3, f4, f5⟩ := hf b hb
    exact ⟨f3, f1, f4, f5⟩
  · obtain ⟨o, es, ep, ho, r⟩ := hm
    exact ⟨o, es, ep, k _ o (fun z => (hf _ z).2.1 rfl) ho, r⟩
  · refine (I.hok b u e).stay (fun c v hc q => k c v ?_ q) (fun _ q => q) fun _ _ q => q
    rcases hc with z | z
    · rw [z]; exact nit b u e
    · exact nit c _ z
theorem FpOk.upd {b p : Addr} {o : HO} (h : FpOk X pins H b) (n : b ≠ p) : FpOk X pins (upd H p o) b := by
  obtain ⟨f0, r⟩ := h
  exact ⟨by rw [upd_ne n]; exact f0, r⟩
theorem get_push {h : Heap} {o u : Obj} {b : Addr} (ho : o.isFreed = false) (e : (h.push o).get? b = some u) : (b = h.objs.size ∧ u = o) ∨ h.get? b = some u := by
  by_cases hb : b = h.objs.size
  · subst hb
    rw [Heap.get?_push_size _ ho] at e
    exact .inl ⟨rfl, (Option.some.inj e).symm⟩
  · refine .inr ?_
    have lt := Heap.lt_size e
    have lt2 : b < h.objs.size := by
      have : (h.push o).objs.size = h.objs.size + 1 := by simp [Heap.push]
      rw [this] at lt
      exact Nat.lt_of_le_of_ne (Nat.le_of_lt_succ lt) hb
    have : (h.push o).get? b = h.get? b := by
      simp only [Heap.get?, Heap.push]
      rw [Array.getElem?_push_lt lt2, Array.getElem?_eq_getElem lt2]
    rw [← this]
    exact e
end

/-! ### enumerate -/
section
variable {X : Cx}
end

/-! ### zip of two lists -/
def Itz (K : PySem.W.Frag) (l1 l2 : Addr) : It :=
  ⟨fun i H => ∃ xs ys x y, SqL K H l1 xs ∧ SqL K H l2 ys ∧ xs[i]? = some x ∧ ys[i]? = some y,
   fun i H x H' => ∃ (p : Addr) (y z : V), x = .ref p ∧ H p = none ∧ (∀ xs, SqL K H l1 xs → xs[i]? = some y) ∧ (∀ ys, SqL K H l2 ys → ys[i]? = some z) ∧ H' = upd H p (.tup [y, z]),
   fun i H => ∃ xs ys, SqL K H l1 xs ∧ SqL K H l2 ys ∧ (xs.length ≤ i ∨ ys.length ≤ i)⟩
theorem turn_zip {P : Program} {w : World} {K : PySem.W.Frag} {elts : List Expr} {x1 : Nat} {pos : Pos} (z TI TO i1 i2 l1 l2 : Addr) (ap : ZipApart z TI TO i1 i2 l1 l2) : Turn P w K (.Tuple elts x1 pos) (Itz K l1 l2) [z, TI, TO, i1, i2] z
    (fun i h => IsZip h z TI TO .none ∧ IsPair h TI (.ref i1) (.ref i2) ∧ (∃ a b, IsPair h TO a b) ∧ h.IsListIter i1 l1 i ∧ h.IsListIter i2 l2 i) where
  mem := by simp
  obj := fun i h st b hb => by
    obtain ⟨hz, hTI, ⟨a, c, hTO⟩, ⟨o1, h1, c1, d1⟩, ⟨o2, h2, c2, d2⟩⟩ := st
    have hb' : b = z ∨ b = TI ∨ b = TO ∨ b = i1 ∨ b = i2 := by simpa using hb
    rcases hb' with rfl | rfl | rfl | rfl | rfl
    · exact ⟨_, hz, fun v z => by cases z⟩
    · exact ⟨_, hTI, fun v z => by cases z⟩
    · exact ⟨_, hTO, fun v z => by cases z⟩
    · exact ⟨_, h1, fun v z => by rw [d1] at z; cases z⟩
    · exact ⟨_, h2, fun v z => by rw [d2] at z; cases z⟩
  keep := fun i h h' st k => by
    obtain ⟨hz, hTI, ⟨a, c, hTO⟩, ⟨o1, h1, c1, d1⟩, ⟨o2, h2, c2, d2⟩⟩ := st
    exact ⟨k z (by simp) _ hz, k TI (by simp) _ hTI, ⟨a, c, k TO (by simp) _ hTO⟩, ⟨o1, k i1 (by simp) _ h1, c1, d1⟩, ⟨o2, k i2 (by simp) _ h2, c2, d2⟩⟩
  item := by
    intro X hP hw hK hc i pins s σ H E I hf st hg
    subst hP hw hK
    obtain ⟨xs, ys, x, y, hq1, hq2, hx, hy⟩ := hg
    obtain ⟨its1, rv1, p1, hz1⟩ := I.list hq1
    obtain ⟨its2, rv2, p2, hz2⟩ := I.list hq2
    obtain ⟨u1, hu1, ru1⟩ := rv1.get hx
    obtain ⟨u2, hu2, ru2⟩ := rv2.get hy
    obtain ⟨hz, hTI, ⟨a, c, hTO⟩, hi1, hi2⟩ := st
    have zlt := Heap.lt_size hz
    have TIlt := Heap.lt_size hTI
    have TOlt := Heap.lt_size hTO
    have i1lt : i1 < s.heap.objs.size := by obtain ⟨o, ho, _⟩ := id hi1; exact Heap.lt_size ho
    have i2lt : i2 < s.heap.objs.size := by obtain ⟨o, ho, _⟩ := id hi2; exact Heap.lt_size ho
    refine wpAny_pyNext_zip_item ap hz hTI hTO hi1 hi2 p1.isList p2.isList (x := u1) (y := u2) (by simpa using hu1) (by simpa using hu2) fun h' hz' hTO' hi1' hi2' hnew hsz hk => ?_
    refine ⟨_, rfl, ?_⟩
    refine wpAny_letOwnedTupleGo_zip hz' fun h2 hz2' sb => ?_
    have hfr : H s.heap.objs.size = none := I.hok.fresh (Nat.le_refl _)
    have I0 : Inv X pins σ (upd H s.heap.objs.size (.tup [x, y])) { s with heap := s.heap.push { cls := .type "tuple", data := .seq #[u1, u2] } } :=
      I.laid (t' := s.toks) (fun b u e => Heap.get?_push_of_some _ e) (Nat.le_refl _) ⟨by show 2 ≤ sizeLine; decide, [u1, u2], .cons ru1 (.cons ru2 .nil), ⟨_, Heap.get?_push_size _ rfl, rfl, _, rfl⟩⟩
    have hf0 : ∀ b ∈ [z, TI, TO, i1, i2], FpOk X pins (upd H s.heap.objs.size (.tup [x, y])) b := fun b hb => by
      refine (hf b hb).upd ?_
      have hb' : b = z ∨ b = TI ∨ b = TO ∨ b = i1 ∨ b = i2 := by simpa using hb
      rcases hb' with rfl | rfl | rfl | rfl | rfl
      · exact Nat.ne_of_lt zlt
      · exact Nat.ne_of_lt TIlt
      · exact Nat.ne_of_lt TOlt
      · exact Nat.ne_of_lt i1lt
      · exact Nat.ne_of_lt i2lt
    have I1 := I0.turnedL (h' := h2) (t' := s.toks) hf0 (fun b o hb eb => by
      have b1 : b ≠ z := fun e => hb (by simp [e])
      have b2 : b ≠ TO := fun e => hb (by simp [e])
      have b3 : b ≠ i1 := fun e => hb (by simp [e])
      have b4 : b ≠ i2 := fun e => hb (by simp [e])
      rw [sb.2 b b1]
      rcases get_push rfl eb with ⟨rfl, rfl⟩ | eb
      · exact hnew
      · exact hk b o b1 b2 b3 b4 eb)
    refine ⟨.ref s.heap.objs.size, _, I1, rfl, ⟨s.heap.objs.size, x, y, rfl, hfr, fun ys hy => by rw [I.list_inj hy hq1]; exact hx, fun ys' hy' => by rw [I.list_inj hy' hq2]; exact hy, rfl⟩, ?_, fun b hb => (hf0 b hb).1⟩
    obtain ⟨o1, ho1, c1, d1⟩ := hi1'
    obtain ⟨o2, ho2, c2, d2⟩ := hi2'
    exact ⟨hz2', (sb.2 TI ap.TIz).trans (hk TI _ ap.TIz ap.TITO ap.TIi1 ap.TIi2 hTI), ⟨_, _, (sb.2 TO ap.TOz).trans hTO'⟩, ⟨o1, (sb.2 i1 ap.i1z).trans ho1, c1, d1⟩, ⟨o2, (sb.2 i2 ap.i2z).trans ho2, c2, d2⟩⟩
  done := by
    intro X hP hw hK hc i pins s σ H E I hf st hg
    subst hP hw hK
    obtain ⟨xs, ys, hq1, hq2, hx⟩ := hg
    obtain ⟨its1, rv1, p1, hz1⟩ := I.list hq1
    obtain ⟨its2, rv2, p2, hz2⟩ := I.list hq2
    obtain ⟨hz, hTI, ⟨a, c, hTO⟩, hi1, hi2⟩ := st
    have hl1 := rv1.length
    have hl2 := rv2.length
    refine wpAny_pyNext_zip_end (I.ok.hd hc) ap hz hTI hTO hi1 hi2 p1.isList p2.isList ?_ fun h' eb => ⟨rfl, I.turnedL (t' := s.toks) hf (fun b o hb e => eb b o (fun z => hb (by simp [z])) (fun z => hb (by simp [z])) (fun z => hb (by simp [z])) (fun z => hb (by simp [z])) e)⟩
    rcases hx with hx | hx
    · exact .inl (by simp; omega)
    · exact .inr (by simp; omega)
  self := fun _ _ _ _ _ st h => wpAny_pyIter_zip st.1 h
section
variable {X : Cx}
def iZip (K : PySem.W.Frag) (ta : TA) : TI := fun σ H R => ta σ H fun vs H1 => ∃ l1 l2 xs ys, vs = [.ref l1, .ref l2] ∧ SqL K H1 l1 xs ∧ SqL K H1 l2 ys ∧ R (Itz K l1 l2) H1
theorem pi_zipK {K : PySem.W.Frag} {a b : Expr} {ta : TA} {p pos : Pos} {elts : List Expr} {x1 : Nat} {tpos : Pos} (hK : X.K = K) (hg : Gl X "zip") (hm : X.mg "zip" = none) (ha : PA X [a, b] ta) (hs : starEach [a, b] X.env = [(false, eval a X.env), (false, eval b X.env)] := by rfl) (hs2 : starEach [b] X.env = [(false, eval b X.env)] := by rfl) : PI X (.Tuple elts x1 tpos) (.Call (.Name "zip" p) [a, b] [] pos) (iZip K ta) := by
  subst hK
  intro pins s σ H R I h
  refine Call_ (ld_blt I hg hm boot_zip (PyProof.Rows.callWith_type1 (thn (ha pos pins s σ H _ I h) fun us s1 ⟨vs, H1, I1, r1, q1⟩ => ?_) (by rw [hs, hs2]) (by rw [hs2]; rfl)))
  obtain ⟨l1, l2, xs, ys, e, hq1, hq2, q⟩ := q1
  subst e
  cases r1 with
  | cons r rr =>
    cases rr with
    | cons r' rr =>
      cases rr
      cases r
      cases r'
      obtain ⟨its1, rv1, pl1, hz1⟩ := I1.list hq1
      obtain ⟨its2, rv2, pl2, hz2⟩ := I1.list hq2
      have lt1 : l1 < s1.heap.objs.size := by obtain ⟨o, ho, _⟩ := pl1.isList; exact Heap.lt_size ho
      have lt2 : l2 < s1.heap.objs.size := by obtain ⟨o, ho, _⟩ := pl2.isList; exact Heap.lt_size ho
      refine call_zip_2 pl1.isList pl2.isList fun h' hZ hTI hTO hi1 hi2 hsz hk => ?_
      refine wpAny_pyIter_zip hZ ?_
      have I2 : Inv X pins σ H1 { s1 with heap := h' } := I1.kept (t' := s1.toks) hk
      refine ⟨s1.heap.objs.size + 4, [s1.heap.objs.size + 4, s1.heap.objs.size + 2, s1.heap.objs.size + 3, s1.heap.objs.size, s1.heap.objs.size + 1], _, _, H1, rfl, I2, turn_zip _ _ _ _ _ l1 l2 (zipApart_new lt1 lt2), ⟨hZ, hTI, ⟨_, _, hTO⟩, hi1, hi2⟩, fun b hb => ?_, q⟩
      have hb' : s1.heap.objs.size ≤ b := by
        have : b = s1.heap.objs.size + 4 ∨ b = s1.heap.objs.size + 2 ∨ b = s1.heap.objs.size + 3 ∨ b = s1.heap.objs.size ∨ b = s1.heap.objs.size + 1 := by simpa using hb
        rcases this with rfl | rfl | rfl | rfl | rfl
        · exact Nat.le_add_right _ _
        · exact Nat.le_add_right _ _
        · exact Nat.le_add_right _ _
        · exact Nat.le_refl _
        · exact Nat.le_add_right _ _
      exact I1.fpOk hb' (I1.hok.fresh hb')
end
end L2
set_option Elab.async false
set_option linter.all false
set_option maxRecDepth 100000
set_option maxHeartbeats 4000000
namespace L2
open PySem PySem.Spec PyProof.Rows
section
variable {K : PySem.W.Frag} {a l1 l2 D : Addr} {xs ys : List V} {g : TG} {tc : TT} {te : TE} {Q : VK} {σ0 : St} {H1 : Hp}
theorem comp_zip {n : Nat} (hn1 : xs.length = n) (hn2 : ys.length = n) (Pv : Nat → St → Hp → Prop) (h0 : Pv 0 σ0 (upd H1 D (.lst []))) (hl : ∀ i σ H, i ≤ n → Pv i σ H → SqL K H l1 xs ∧ SqL K H l2 ys)
    (hs : ∀ i x y σ H p, xs[i]? = some x → ys[i]? = some y → Pv i σ H → H p = none → g (.ref p) σ (upd H p (.tup [x, y])) fun σ2 H2 => tc σ2 H2 fun b H3 =>
      if b = true then te σ2 H3 fun y H4 => ∃ acc, H4 D = some (.lst acc) ∧ acc.length < sizeLine ∧ Pv (i + 1) σ2 (upd H4 D (.lst (acc ++ [y]))) else Pv (i + 1) σ2 H3)
    (hd : ∀ σ H, Pv n σ H → Q (.ref D) H) : CompW (Itz K l1 l2) g tc te Q D σ0 H1 := by
  refine ⟨fun i m σ H => m = n - i ∧ i ≤ n ∧ Pv i σ H, ⟨n, by simp, Nat.zero_le _, h0⟩, ?_⟩
  rintro i m σ H ⟨rfl, hi, p⟩
  obtain ⟨q1, q2⟩ := hl i σ H hi p
  by_cases hlt : i < n
  · refine .inr ⟨⟨xs, ys, xs[i], ys[i], q1, q2, by simp [hn1, hlt], by simp [hn2, hlt]⟩, Pv (i + 1), fun σ' H' p' => ⟨n - (i + 1), by omega, rfl, hlt, p'⟩, fun x H' y => ?_⟩
    obtain ⟨t, z, u, rfl, ht, hz, hu, rfl⟩ := y
    exact hs i z u σ _ t (hz xs q1) (hu ys q2) p ht
  · have e : i = n := by omega
    subst e
    exact .inl ⟨⟨xs, ys, q1, q2, .inl (by omega)⟩, hd σ H p⟩
end
section
variable {K : PySem.W.Frag} {a l1 l2 : Addr} {xs ys : List V} {g : TG} {tb : TS} {D : Ends} {σ : St} {H : Hp}
end
/-! ### list.insert, list.count, sum -/
section
variable {X : Cx}
def rInsert : V → List V → Hp → VK → Prop := fun x vs H Q => ∃ l xs i y, x = .ref l ∧ vs = [.int i, y] ∧ H l = some (.lst xs) ∧ 0 ≤ i ∧ i ≤ xs.length ∧ xs.length < sizeLine ∧ Q .non (upd H l (.lst (xs.take i.toNat ++ y :: xs.drop i.toNat)))
theorem mt_insert : MtM X "list.insert" rInsert := by
  intro pins s σ H x vs v us Q I rx rv h
  obtain ⟨l, xs, i, y, rfl, rfl, hH, i0, i1, hz, q⟩ := h
  cases rx
  obtain ⟨u, u2, rfl, ru, ru2⟩ := rv.two
  obtain ⟨t, rfl⟩ := ru
  obtain ⟨z, its, n, r, hl, e⟩ := I.lstM hH
  have l63 := line63
  refine call_meets F.slot_list_insert ⟨_, e, rfl⟩ F.entry_list_insert (F.args_list_insert_3 _ _ _)
    (AutoSeq1.list_insert_list_int_val_1 l its.toArray n i t u2 (by rw [show Builtin.List.listFitsIndex i = true from fitsIndex_both (by omega) (by omega)]; decide) (by rw [List.size_toArray]; omega)) ⟨e, ?_⟩
  refine ⟨.non, _, I.lset (its' := its.take i.toNat ++ u2 :: its.drop i.toNat) hH e ?_ ((r.take _).append (.cons ru2 (r.drop _))) ?_, rfl, q⟩
  · have hi : ¬ i < 0 := by omega
    simp only [hi, if_false]
    have hm : min i.toNat its.toArray.size = i.toNat := by rw [List.size_toArray]; omega
    simp only [hm]
    apply Array.ext'
    simp [List.extract_eq_drop_take, List.take_of_length_le]
  · simp only [List.length_append, List.length_cons, List.length_take, List.length_drop]
    omega
theorem valsInts : ∀ {ns : List Int} {us : List Value}, Vals (ns.map V.int) us → IntsAre us ns
  | [], us, r => by cases r; exact .nil
  | n :: ns, us, r => by
    cases r with
    | cons r rs =>
      obtain ⟨t, rfl⟩ := r
      exact .cons n t (valsInts rs)
def rCountI : V → List V → Hp → VK → Prop := fun x vs H Q => ∃ (l : Addr) (ns : List Int) (i : Int), x = .ref l ∧ vs = [.int i] ∧ SqL X.K H l (ns.map V.int) ∧ Q (.int (ns.count i)) H
theorem mt_count : MtR X "list.count" (rCountI (X := X)) := by
  intro pins s σ H x vs v us Q I rx rv h
  obtain ⟨l, ns, i, rfl, rfl, hq, q⟩ := h
  cases rx
  obtain ⟨u, rfl, ru⟩ := rv.one
  obtain ⟨t, rfl⟩ := ru
  obtain ⟨its, r', pl, hz⟩ := I.list hq
  exact count_list_ints pl.isList (valsInts r') ⟨.int _, H, I.tok _, ⟨_, rfl⟩, q⟩
theorem preSum_get (ns : List Int) : ∀ n, n ≤ ns.length → preSum (fun i => (ns[i]?).getD 0) n = (ns.take n).sum
  | 0, _ => by simp [preSum]
  | n + 1, h => by
    have ih := preSum_get ns n (by omega)
    have hn : n < ns.length := h
    rw [List.take_succ, List.sum_append, ← ih]
    simp [preSum, hn]
def rSum (K : PySem.W.Frag) : List V → Hp → VK → Prop := fun xs H Q => ∃ (p : Addr) (ns : List Int), xs = [.ref p] ∧ SqL K H p (ns.map V.int) ∧ Q (.int ns.sum) H
theorem call_sumK {K : PySem.W.Frag} (hK : X.K = K) (hc : X.calm = true) : CallR X (.builtin "sum") (rSum K) := by
  subst hK
  intro pins s σ H xs us Q I r h
  obtain ⟨p, ns, rfl, hq, q⟩ := h
  obtain ⟨u, rfl, rx⟩ := vals1 r
  cases rx
  obtain ⟨its, rv, pl, hz⟩ := I.list hq
  have e := valsInts rv
  have hlen : its.length = ns.length := by rw [← rv.length, List.length_map]
  refine call_sum_walkG (wpAny_pyIter_list pl.isList ⟨s.heap.objs.size, [s.heap.objs.size, p], [s.heap.objs.size], its.length, _, _, fun i => (ns[i]?).getD 0, rfl,
    walks_list (show X.A.in1.handled = none from I.ok.hd hc) s.heap.objs.size p ?_ its, ⟨⟨_, Heap.get?_push_size _ rfl, rfl, rfl⟩, ?_⟩, ?_, ?_, ?_⟩)
  · intro z
    obtain ⟨o, ho, _⟩ := pl.isList
    have := Heap.lt_size ho
    rw [← z] at this
    exact Nat.lt_irrefl _ this
  · obtain ⟨o, ho, hcl⟩ := pl.isList
    exact ⟨o, Heap.get?_push_of_some _ ho, hcl⟩
  · intro b hb
    have hsz : (s.heap.push { cls := .type "list_iterator", data := .fields #[.ref p, .int 0 0] }).objs.size = s.heap.objs.size + 1 := by simp [Heap.push]
    have hb' : b = s.heap.objs.size ∨ b = p := by simpa using hb
    show b < (s.heap.push _).objs.size
    rw [hsz]
    rcases hb' with rfl | rfl
    · exact Nat.lt_succ_self _
    · obtain ⟨o, ho, _⟩ := pl.isList
      exact Nat.lt_succ_of_lt (Heap.lt_size ho)
  · intro i v hP
    obtain ⟨j, hj, rj⟩ : ∃ j, ns[i]? = some j ∧ ∃ t, v = .int j t := by
      have hi : i < its.length := (List.getElem?_eq_some_iff.mp hP).1
      have hv := (rv.get (i := i) (x := V.int (ns[i]'(by omega))) (by simp [show i < ns.length by omega]))
      obtain ⟨u, hu, ru⟩ := hv
      rw [hP] at hu
      cases hu
      obtain ⟨t, ht⟩ := ru
      exact ⟨ns[i]'(by omega), by simp [show i < ns.length by omega], t, ht⟩
    obtain ⟨t, rfl⟩ := rj
    exact ⟨t, by simp [hj]⟩
  · intro h' tk t' k
    rw [preSum_get ns its.length (by omega), List.take_of_length_le (by omega)]
    have f := I.fpOk (H' := H) (b := s.heap.objs.size) (Nat.le_refl _) (I.hok.fresh (Nat.le_refl _))
    have I2 : Inv X pins σ H { s with heap := h', toks := tk } := I.turned (h' := h') (t' := tk) (it := s.heap.objs.size) (fun b o hb e => k b o (by simpa using hb) (Heap.get?_push_of_some _ e)) f.1 f.2.1 f.2.2.2.1 f.2.2.2.2.1 f.2.2.2.2.2
    exact ⟨.int _, H, I2, ⟨_, rfl⟩, q⟩
theorem pe_bmK {K : PySem.W.Frag} {T name id : String} {r : V → List V → Hp → VK → Prop} {o e : Expr} {es : List Expr} {to : TE} {t : TA} {apos cpos : Pos} (h : X.K = K) (pa : PlainAttrs T) (slot : Slot T name id) (hty : typeOf (.builtin id) = pure (.type "method_descriptor")) (hm : MtR X id r) (ho : PE X o to) (ha : PA X (e :: es) t)
    (hbase : attributeBase o name X.env (eval o X.env) = eval o X.env := by rfl)
    (hfew : ((backTo cpos (starEach (e :: es) X.env)).all (fun x => !x.1) && (backToKw cpos (keywordEach [] X.env)).all (fun x => x.1.isSome)
      && decide ((e :: es).length + ([] : List Keyword).length + (if ([] : List Keyword).isEmpty then 0 else 1) < 30)) = true := by rfl)
    (hline : (apos.endLine == cpos.line) = true := by rfl) (hs : starEach (e :: es) X.env = (false, eval e X.env) :: starEach es X.env := by rfl) (hplain : (backTo cpos (starEach es X.env)).any (·.1) = false := by rfl) :
    PE X (.Call (.Attribute o name apos) (e :: es) [] cpos) (tBM K T r to t) := by
  subst h
  exact pe_bm pa slot hty hm ho ha hbase hfew hline hs hplain
def rCount (K : PySem.W.Frag) : V → List V → Hp → VK → Prop := fun x vs H Q => ∃ (l : Addr) (ns : List Int) (i : Int), x = .ref l ∧ vs = [.int i] ∧ SqL K H l (ns.map V.int) ∧ Q (.int (ns.count i)) H
theorem mt_countK {K : PySem.W.Frag} (h : X.K = K) : MtR X "list.count" (rCount K) := by subst h; exact mt_count
theorem pg_tupK {K : PySem.W.Frag} {es : List Expr} {k : Nat} {t : TGs} {n : Nat} {pos : Pos} (hK : X.K = K) (hc : X.calm = true) (h : PGs X es t)
    (hn : (assignEach es X.env).length = n := by rfl) (hst : (assignEach es X.env).findIdx? (·.1) = none := by rfl) : PG X (.Tuple es k pos) (gTup K n t) := by subst hK; exact pg_tup hc h hn hst
end
end L2
set_option Elab.async false
set_option linter.all false
set_option maxRecDepth 100000
set_option maxHeartbeats 4000000
namespace L2
open PySem
/-! ### comprehensions whose block writes nothing that stood -/
section
variable {K : PySem.W.Frag} {a D : Addr} {xs : List V} {tc : TT} {te : TE} {Q : VK} {rest : St} {H1 : Hp}
theorem fm_succ {α : Type} (f : Nat → Option α) (n : Nat) : (List.range (n + 1)).filterMap f = (List.range n).filterMap f ++ (f n).toList := by
  rw [List.range_succ, List.filterMap_append]
  cases h : f n <;> simp [h]
theorem fm_len {α : Type} (f : Nat → Option α) (n : Nat) : ((List.range n).filterMap f).length ≤ n := by
  have := List.length_filterMap_le f (List.range n)
  simpa using this
theorem Same.newly {H H1 : Hp} {D : Addr} {o : HO} (h : Same H H1) (n : H D = none) : Same H (upd H1 D o) := fun b u e => by rw [upd_ne (ne_of_none e n)]; exact h b u e
/-- over a list: what is told of each item is known ahead -/
theorem comp_val (f : Nat → Option V) (hD : H1 D = none) (hq : SqL K H1 a xs) (hx : xs.length ≤ 100000)
    (hs : ∀ i x H (G : Hp → Prop) (F : VK), xs[i]? = some x → Same H1 H → (∀ H', Same H H' → f i = none → G H') → (∀ y H', Same H H' → f i = some y → F y H') → tc (some x :: rest) H fun b H3 => if b = true then te (some x :: rest) H3 F else G H3)
    (hd : ∀ H, Same H1 H → H D = some (.lst ((List.range xs.length).filterMap f)) → Q (.ref D) H) : CompW (Itl K a) (gName 0) tc te Q D (none :: rest) H1 := by
  refine comp_list (K := K) (xs := xs) (fun i σ H => (∃ v, σ = v :: rest) ∧ Same H1 H ∧ H D = some (.lst ((List.range i).filterMap f))) ⟨⟨none, rfl⟩, same_new hD, upd_same⟩ (fun i σ H _ ⟨_, sm, _⟩ => sm.sqL _ _ hq) ?_ (fun σ H ⟨_, sm, e⟩ => hd H sm e)
  rintro i x σ H hi ⟨⟨v, rfl⟩, sm, e⟩
  have hil : i < xs.length := (List.getElem?_eq_some_iff.mp hi).1
  refine hs i x H _ _ hi sm (fun H3 s3 ef => ⟨⟨_, rfl⟩, sm.trans s3, by rw [s3 _ _ e, fm_succ, ef]; simp⟩) (fun y H4 s4 ef => ?_)
  refine ⟨_, s4 _ _ e, ?_, ⟨_, rfl⟩, (sm.trans s4).newly hD, ?_⟩
  · have := fm_len f i
    rw [sizeLine_eq]; omega
  · rw [upd_same, fm_succ, ef]; rfl
theorem comp_valT (f : Nat → Option V) (hD : H1 D = none) (hq : H1 a = some (.tup xs)) (hx : xs.length ≤ 100000)
    (hs : ∀ i x H (G : Hp → Prop) (F : VK), xs[i]? = some x → Same H1 H → (∀ H', Same H H' → f i = none → G H') → (∀ y H', Same H H' → f i = some y → F y H') → tc (some x :: rest) H fun b H3 => if b = true then te (some x :: rest) H3 F else G H3)
    (hd : ∀ H, Same H1 H → H D = some (.lst ((List.range xs.length).filterMap f)) → Q (.ref D) H) : CompW (Itt K a) (gName 0) tc te Q D (none :: rest) H1 := by
  refine comp_tup (K := K) (xs := xs) (fun i σ H => (∃ v, σ = v :: rest) ∧ Same H1 H ∧ H D = some (.lst ((List.range i).filterMap f))) ⟨⟨none, rfl⟩, same_new hD, upd_same⟩ (fun i σ H _ ⟨_, sm, _⟩ => SqT.of (sm.tups _ _ hq)) ?_ (fun σ H ⟨_, sm, e⟩ => hd H sm e)
  rintro i x σ H hi ⟨⟨v, rfl⟩, sm, e⟩
  have hil : i < xs.length := (List.getElem?_eq_some_iff.mp hi).1
  refine hs i x H _ _ hi sm (fun H3 s3 ef => ⟨⟨_, rfl⟩, sm.trans s3, by rw [s3 _ _ e, fm_succ, ef]; simp⟩) (fun y H4 s4 ef => ?_)
  refine ⟨_, s4 _ _ e, ?_, ⟨_, rfl⟩, (sm.trans s4).newly hD, ?_⟩
  · have := fm_len f i
    rw [sizeLine_eq]; omega
  · rw [upd_same, fm_succ, ef]; rfl
theorem comp_valR {n : Nat} (f : Nat → Option V) (hD : H1 D = none) (hx : n ≤ 100000)
    (hs : ∀ i H (G : Hp → Prop) (F : VK), i < n → Same H1 H → (∀ H', Same H H' → f i = none → G H') → (∀ y H', Same H H' → f i = some y → F y H') → tc (some (.int (0 + i)) :: rest) H fun b H3 => if b = true then te (some (.int (0 + i)) :: rest) H3 F else G H3)
    (hd : ∀ H, Same H1 H → H D = some (.lst ((List.range n).filterMap f)) → Q (.ref D) H) : CompW (Itr 0 n) (gName 0) tc te Q D (none :: rest) H1 := by
  refine comp_range (lo := 0) (n := n) (fun i σ H => (∃ v, σ = v :: rest) ∧ Same H1 H ∧ H D = some (.lst ((List.range i).filterMap f))) ⟨⟨none, rfl⟩, same_new hD, upd_same⟩ ?_ (fun σ H ⟨_, sm, e⟩ => hd H sm e)
  rintro i σ H hi ⟨⟨v, rfl⟩, sm, e⟩
  refine hs i H _ _ hi sm (fun H3 s3 ef => ⟨⟨_, rfl⟩, sm.trans s3, by rw [s3 _ _ e, fm_succ, ef]; simp⟩) (fun y H4 s4 ef => ?_)
  refine ⟨_, s4 _ _ e, ?_, ⟨_, rfl⟩, (sm.trans s4).newly hD, ?_⟩
  · have := fm_len f i
    rw [sizeLine_eq]; omega
  · rw [upd_same, fm_succ, ef]; rfl
/-- two lists side by side -/
theorem comp_valZ {l1 l2 : Addr} {ys : List V} {n : Nat} (hn1 : xs.length = n) (hn2 : ys.length = n) (f : Nat → Option V) (hD : H1 D = none) (hq1 : SqL K H1 l1 xs) (hq2 : SqL K H1 l2 ys) (hx : n ≤ 100000)
    (hs : ∀ i x y H (G : Hp → Prop) (F : VK), xs[i]? = some x → ys[i]? = some y → Same H1 H → (∀ H', Same H H' → f i = none → G H') → (∀ y H', Same H H' → f i = some y → F y H') → tc (some x :: some y :: rest) H fun b H3 => if b = true then te (some x :: some y :: rest) H3 F else G H3)
    (hd : ∀ H, Same H1 H → H D = some (.lst ((List.range n).filterMap f)) → Q (.ref D) H) : CompW (Itz K l1 l2) (gTup K 2 (gCons (gName 0) (gCons (gName 1) gNil))) tc te Q D (none :: none :: rest) H1 := by
  refine comp_zip (K := K) (xs := xs) (ys := ys) hn1 hn2 (fun i σ H => (∃ u v, σ = u :: v :: rest) ∧ Same H1 H ∧ H D = some (.lst ((List.range i).filterMap f))) ⟨⟨none, none, rfl⟩, same_new hD, upd_same⟩ (fun i σ H _ ⟨_, sm, _⟩ => ⟨sm.sqL _ _ hq1, sm.sqL _ _ hq2⟩) ?_ (fun σ H ⟨_, sm, e⟩ => hd H sm e)
  rintro i x y σ H p hix hiy ⟨⟨u, v, rfl⟩, sm, e⟩ hp
  have sp := same_new (o := HO.tup [x, y]) hp
  refine ⟨p, [x, y], rfl, SqT.of upd_same, rfl, _, _, rfl, _, _, rfl, rfl, ?_⟩
  have hil : i < xs.length := (List.getElem?_eq_some_iff.mp hix).1
  refine hs i x y _ _ _ hix hiy (sm.trans sp) (fun H3 s3 ef => ⟨⟨_, _, rfl⟩, (sm.trans sp).trans s3, by rw [s3 _ _ (sp _ _ e), fm_succ, ef]; simp⟩) (fun y H4 s4 ef => ?_)
  refine ⟨_, s4 _ _ (sp _ _ e), ?_, ⟨_, _, rfl⟩, ((sm.trans sp).trans s4).newly hD, ?_⟩
  · have := fm_len f i
    rw [sizeLine_eq]; omega
  · rw [upd_same, fm_succ, ef]; rfl
theorem fm_congr {α β : Type} {f g : α → Option β} : ∀ (l : List α) (_ : True) (h : ∀ x ∈ l, f x = g x), l.filterMap f = l.filterMap g
  | [], _, _ => rfl
  | x :: l, _, h => by
    rw [List.filterMap_cons, List.filterMap_cons, h x (by simp), fm_congr l trivial fun y hy => h y (by simp [hy])]
theorem snocInd {α : Type} {P : List α → Prop} (h0 : P []) (hs : ∀ xs x, P xs → P (xs ++ [x])) (xs : List α) : P xs := by
  rw [← List.reverse_reverse xs]
  induction xs.reverse with
  | nil => exact h0
  | cons x l ih => rw [List.reverse_cons]; exact hs _ _ ih
theorem fm_some {α β : Type} (xs : List α) (g : α → β) : (List.range xs.length).filterMap (fun i => (xs[i]?).map g) = xs.map g := by
  refine snocInd (P := fun xs => (List.range xs.length).filterMap (fun i => (xs[i]?).map g) = xs.map g) rfl (fun xs x ih => ?_) xs
  · show (List.range (xs ++ [x]).length).filterMap (fun i => ((xs ++ [x])[i]?).map g) = (xs ++ [x]).map g
    rw [List.length_append, List.length_singleton, fm_succ, List.map_append]
    congr 1
    · rw [← ih]
      refine fm_congr _ trivial fun i hi => ?_
      have : i < xs.length := by simpa using hi
      rw [List.getElem?_append_left this]
    · simp
end
end L2
namespace L2
open PySem
section
variable {X : Cx} {K : PySem.W.Frag}
theorem op_catTK (h : X.K = K) : OpR X (binaryOp .Add) (rCatT K) := by subst h; exact op_catT
end
end L2
namespace L2
open PySem
theorem seq_cps {a b : TS} {D : Ends} {σ : St} {H : Hp} (P : St → Hp → Prop) (h1 : ∀ D' : Ends, (∀ σ' H', P σ' H' → D'.nx σ' H') → D'.rt = D.rt → a D' σ H) (h2 : ∀ σ' H', P σ' H' → b D σ' H') : tSeq a b D σ H := h1 _ h2 rfl
end L2
namespace L2
open PySem PySem.Spec PyProof.Rows
section
variable {X : Cx} {K : PySem.W.Frag} {a : Expr} {ta : TE} {pos : Pos}
def tTru (K : PySem.W.Frag) (ta : TE) : TT := fun σ H Q => ta σ H fun x H' => ∃ k, TruV K x H' k ∧ Q k H'
def tNotT (K : PySem.W.Frag) (ta : TE) : TE := fun σ H Q => ta σ H fun x H' => ∃ k, TruV K x H' k ∧ Q (.bl (!k)) H'
theorem pt_truthK (h : X.K = K) (ha : PE X a ta) (he : ∀ whole, isTrue a X.env whole = (do let v ← whole; standAt a.pos; holding [v] (truthy v)) := by intro _; rfl) : PT X a (tTru K ta) := by
  subst h
  exact pt_truth ha he
theorem pe_notT (h : X.K = K) (ha : PE X a ta) : PE X (.UnaryOp .Not a pos) (tNotT K ta) := by
  subst h
  intro pins s σ H Q I h
  refine UnaryOp_ (thn (ha pins s σ H _ I h) fun v s1 ⟨x, H1, I1, r1, q1⟩ => ?_)
  obtain ⟨k, e, q1⟩ := q1
  exact not_of (thn (tru_ok pins s1 σ H1 x v (fun b H => Q (.bl (!b)) H) I1 r1 ⟨k, e, q1⟩) fun b s2 ⟨H2, I2, q2⟩ => ⟨.bl (!b), H2, I2, rfl, q2⟩)
end
end L2
set_option Elab.async false
set_option linter.all false
set_option maxRecDepth 100000
set_option maxHeartbeats 4000000
namespace L2
open PySem PySem.Spec PyProof.Rows
section
variable {X : Cx} {K : PySem.W.Frag}
end
section
variable {K : PySem.W.Frag} {a D : Addr} {xs : List V} {te : TE} {Q : VK} {rest : St} {H1 : Hp}
theorem dats_snoc {H : Hp} {vs : List V} {ds : List PyData} {v : V} {d : PyData} (h : Dats H vs ds) (hd : Dat H v d) : Dats H (vs ++ [v]) (ds ++ [d]) := Dats.append h (by simp only [Dats, and_true]; exact hd)
end
end L2
set_option Elab.async false
set_option linter.all false
namespace L2
open PySem
end L2
set_option Elab.async false
set_option linter.all false
set_option maxRecDepth 100000
set_option maxHeartbeats 4000000
namespace L2
open PySem PySem.Spec PyProof.Rows
section
variable {prog : Program} {w : World} {K : Type} [DecidableEq K] {knd : HeapKind prog w K}
theorem atKey_none {xs : List (K × Addr × Value)} {k : K} (h : ∀ (j : Nat) (p : Addr × Value), xs[j]? ≠ some (k, p)) : atKey xs k = none := by
  unfold atKey
  rw [Option.map_eq_none_iff, List.find?_eq_none]
  intro x hx e
  obtain ⟨j, hj⟩ := List.getElem?_of_mem hx
  have e' : x.1 = k := of_decide_eq_true e
  exact h j x.2 (by rw [hj, ← e'])
theorem atKey_some {xs : List (K × Addr × Value)} {k : K} {j : Nat} {p : Addr × Value} (hn : (xs.map (·.1)).Nodup) (h : xs[j]? = some (k, p)) : atKey xs k = some p := by
  unfold atKey
  induction xs generalizing j with
  | nil => cases h
  | cons x xs ih =>
    rw [List.find?_cons]
    cases j with
    | zero =>
      have : x = (k, p) := by simpa using h
      subst this
      simp
    | succ j =>
      have hj : xs[j]? = some (k, p) := by simpa using h
      have hn' := List.nodup_cons.mp (by simpa using hn : (x.1 :: xs.map (·.1)).Nodup)
      have ne : ¬ x.1 = k := fun z => hn'.1 (by rw [z]; exact List.mem_map.mpr ⟨(k, p), List.mem_of_getElem? hj, rfl⟩)
      rw [decide_eq_false ne]
      exact ih hn'.2 hj
theorem dictSetDefault_heap {A : Around} {E : Value → Shared → Prop} {s : Shared} {d a : Addr} {xs : List (K × Addr × Value)} {k : K} {dflt : Value} {Q : Value → Shared → Prop}
    (hr : knd.room A) (hk : knd.is s.heap k a) (dd : Heap.DictOfH knd s.heap d xs) (hz : xs.length ≤ sizeLine)
    (h1 : ∀ p, atKey xs k = some p → Q p.2 { s with toks := s.toks + knd.draws k })
    (h2 : atKey xs k = none → ∀ h', Heap.DictOfH knd h' d (xs ++ [(k, a, dflt)]) → Heap.SameBut d s.heap h' → Q dflt { s with heap := h', toks := s.toks + knd.draws k }) :
    wpAny (model prog w) A (dictSetDefault d (.ref a) dflt) Q E s := by
  unfold dictSetDefault
  refine wpAny_holding (wpAny_bind (knd.pyHash hr hk ?_))
  obtain ⟨o, es, ep, ho, hx, hd, he, hi, hn⟩ := id dd
  have hl : es.size = xs.length := by rw [← Array.length_toList, he, List.length_map]
  refine wpAny_bind (wpAny_dictFind_heap (s := { s with toks := s.toks + knd.draws k }) hr hk ho hd he hi hn (fun hno => ?_) (fun j p hj => ?_))
  · refine wpAny_bind (wpAny_rule ?_)
    have an := atKey_none hno
    refine wpAny_bind (wpAny_updateDictKeys (s := { s with toks := s.toks + knd.draws k }) ho hd ?_ (by omega) (by simp))
    refine wpAny_pure ?_
    have sb := Heap.SameBut.update s.heap d (Obj.mapDictKeys fun x => x.push { hash := knd.hash k, key := .ref a, val := dflt })
    refine h2 an _ ?_ sb
    obtain ⟨oc, od, odat, osl⟩ := o
    simp only at hd
    subst hd
    refine ⟨_, es.push { hash := knd.hash k, key := .ref a, val := dflt }, ep + 1, Heap.get?_update_self _ ho ?_, hx, rfl, ?_, ?_, ?_⟩
    · obtain ⟨c1, c2, c3⟩ := hx
      simp only at c1
      subst c1
      rfl
    · rw [Array.toList_push, he, List.map_append]; rfl
    · intro x hxm
      rcases List.mem_append.mp hxm with hxm | hxm
      · exact knd.keeps (hi x hxm) ho rfl sb
      · have : x = (k, a, dflt) := by simpa using hxm
        subst this
        exact knd.keeps hk ho rfl sb
    · rw [List.map_append]
      refine List.nodup_append.mpr ⟨hn, by simp, ?_⟩
      intro y hy z hz' e
      have : z = k := by simpa using hz'
      subst this
      subst e
      obtain ⟨x, hx', rfl⟩ := List.mem_map.mp hy
      obtain ⟨j, hj⟩ := List.getElem?_of_mem hx'
      exact hno j x.2 hj
  · refine wpAny_bind (wpAny_dictEntries (s := { s with toks := s.toks + knd.draws k }) ho hd ?_)
    have ej : es[j]? = some (entryOfKey knd (k, p)) := by
      rw [← Array.getElem?_toList, he, List.getElem?_map, hj]; rfl
    rw [ej]
    exact wpAny_bind (wpAny_rule (wpAny_pure (h1 p (atKey_some hn hj))))
theorem meetsH_setdefault (knd : HeapKind prog w K) (d a : Addr) (hd : (d == sysModules) = false) (dflt : Value) : MeetsIn prog w (Builtin.«dict.setdefault» { pos := [.ref d, .ref a, dflt] }) fun A R s =>
    knd.room A.in1 ∧ ∃ k xs, knd.is s.heap k a ∧ Heap.DictOfH knd s.heap d xs ∧ xs.length ≤ sizeLine ∧ (∀ p, atKey xs k = some p → R (.ok (.ret p.2)) { s with toks := s.toks + knd.draws k }) ∧
      (atKey xs k = none → ∀ h', Heap.DictOfH knd h' d (xs ++ [(k, a, dflt)]) → Heap.SameBut d s.heap h' → R (.ok (.ret dflt)) { s with heap := h', toks := s.toks + knd.draws k }) := by
  rintro A R s ⟨hr, k, xs, hk, dd, hz, h1, h2⟩
  obtain ⟨o, es, ep, ho, hx, hdat, _⟩ := id dd
  unfold Builtin.«dict.setdefault»
  have ht : s.TypeIs (.ref d) "dict" := ⟨o, ho, hx.1⟩
  refine wpAny_bind ?_
  unfold Builtin.Dict.keyAndDefault
  refine wpAny_bind ?_
  unfold Builtin.Dict.notOrdered
  rw [if_pos (by decide)]
  refine wpAny_bind (wpAny_typeOf ht ?_)
  rw [if_neg (by decide)]
  refine wpAny_pure ?_
  refine wpAny_bind ?_
  unfold Builtin.Dict.nameIsSure
  rw [if_neg (by show ¬ (false = true); decide)]
  refine wpAny_pure ?_
  refine wpAny_bind ?_
  unfold selfAndSome noKeywords
  refine wpAny_bind ?_
  rw [if_pos (by rfl)]
  refine wpAny_pure ?_
  show wpAny (model prog w) A.in1 (checkCount "setdefault" 1 2 2 >>= fun _ => pure (Value.ref d, [Value.ref a, dflt])) _ _ s
  refine wpAny_bind ?_
  have ck : checkCount "setdefault" 1 2 2 = pure () := rfl
  rw [ck]
  refine wpAny_pure (wpAny_pure ?_)
  show wpAny (model prog w) A.in1 (Builtin.Dict.addrOf (.ref d) >>= fun x => pure (x, Value.ref a, some dflt)) _ _ s
  refine wpAny_bind (wpAny_pure (wpAny_pure ?_))
  show wpAny (model prog w) A.in1 (if (d == sysModules) = true then _ else (dictSetDefault d (.ref a) dflt >>= fun v => ret v)) _ _ s
  rw [if_neg (by rw [hd]; decide)]
  refine wpAny_bind (dictSetDefault_heap hr hk dd hz (fun p hp => wpAny_pure (h1 p hp)) (fun hn h' dd' sb => wpAny_pure (h2 hn h' dd' sb)))
end
section
variable {X : Cx} {o e f : Expr} {td ty tx : TE} {apos cpos : Pos}
def tDSetD (td ty tx : TE) : TE := fun σ H Q => td σ H fun x H1 => ∃ a, x = .ref a ∧ IsD H1 a ∧ ty σ H1 fun y H2 => tx σ H2 fun z H3 => ∃ kvs k b, H3 a = some (.dT kvs) ∧ y = .ref b ∧ H3 b = some (.tup (k.map kV)) ∧ kvs.length < sizeLine ∧
  (∀ v, valV kvs k = some v → Q v H3) ∧ (valV kvs k = none → Q z (upd H3 a (.dT (putK kvs k z))))
theorem pe_dsetd (hu : X.A.units + 1 < cLine) (ho : PE X o td) (he : PE X e ty) (hf : PE X f tx) (m : M2 X o "setdefault" apos e f cpos) : PE X (.Call (.Attribute o "setdefault" apos) [e, f] [] cpos) (tDSetD td ty tx) := by
  intro pins s σ H Q I h
  refine wpAny_Call_method m.base m.few m.line PySem.F.plainAttrs_dict PySem.F.slot_dict_setdefault PySem.F.type_dict_setdefault (thn (ho pins s σ H _ I h) fun u s1 ⟨x, H1, I1, rx, a, ex, d, q1⟩ => ?_)
  subst ex
  obtain rfl : u = Value.ref a := rx
  obtain ⟨t1, t2, _⟩ := isD_at I1 d
  refine ⟨t1, t2, ?_⟩
  rw [m.trees]
  refine Calls.callWith_builtin rfl (Calls.evalArgs_plain (Calls.spliced_cons (thn (he pins s1 σ H1 _ I1 q1) fun iv s2 ⟨y, H2, I2, ry, q2⟩ =>
    Calls.spliced_cons (thn (hf pins s2 σ H2 _ I2 q2) fun fv s3 ⟨z, H3, I3, rz, kvs, k, b, ea, ey, eb, hl, q3, q4⟩ => Calls.spliced_nil ?_))))
  subst ey
  cases (show iv = Value.ref b from ry)
  obtain ⟨hz, hd, xs, rel, dd⟩ := dt_of I3.hok ea
  have hz' : xs.length ≤ sizeLine := by rw [← Paired.length rel]; exact hz
  have rv := rel.val k
  refine call_meetsIn PySem.F.slot_dict_setdefault dd.typeIs PySem.F.entry_dict_setdefault (PySem.F.args_dict_setdefault_3 _ _ _) (meetsH_setdefault (tupleKind (mixKind X.prog X.w)) a b hd fv) ⟨tupleKind_room_in1 hu, k, xs, key_of I3.hok eb, dd, hz', fun p hp => ?_, fun hn h' dd' sb => ?_⟩
  · rw [hp] at rv
    cases lv : valV kvs k with
    | none => rw [lv] at rv; exact absurd rv (by simp [RelO])
    | some v =>
      rw [lv] at rv
      exact ⟨v, H3, I3.tok _, rv, q3 v lv⟩
  · rw [hn] at rv
    have lv : valV kvs k = none := by
      cases lv : valV kvs k with
      | none => rfl
      | some v => rw [lv] at rv; exact absurd rv (by simp [RelO])
    have hl' : (putK kvs k z).length ≤ sizeLine := by have := length_putK kvs k z; omega
    obtain ⟨q, es, ep, hq, h2, h3, h4, _, h5⟩ := dd'
    have est : storedH xs k b fv = xs ++ [(k, b, fv)] := by unfold storedH; rw [hn]; rfl
    have rp := rel.put k eb rz
    rw [est] at rp
    refine ⟨z, upd H3 a (.dT (putK kvs k z)), d_write (ob := .dT (putK kvs k z)) I3 (by rw [ea]; exact True.intro) sb ⟨q, hq⟩ ⟨hl', hd, _, rp.keeps fun c ys ec => ?_, q, es, ep, hq, h2, h3, h4, h5⟩, rz, q4 lv⟩
    rw [upd_ne (ne_of ec ea (fun z => nomatch z))]
    exact ec
end
end L2
namespace L2
open PySem PySem.Spec PyProof.Rows
section
variable {X : Cx} {K : PySem.W.Frag}
def rGetL (K : PySem.W.Frag) : V → V → Hp → VK → Prop := fun x y H Q => ∃ p xs i v, x = .ref p ∧ y = .int i ∧ SqL K H p xs ∧ 0 ≤ i ∧ xs[i.toNat]? = some v ∧ Q v H
theorem pget_listK (h : X.K = K) : PGet X (rGetL K) := by
  subst h
  intro pins s σ H o i ov iv Q I ro ri h
  obtain ⟨p, xs, k, v, rfl, rfl, hq, k0, he, q⟩ := h
  cases ro
  obtain ⟨t, rfl⟩ := ri
  obtain ⟨its, r, pl, hz⟩ := I.list hq
  obtain ⟨w, ew, rw'⟩ := r.get he
  have hl := r.length
  have hn := line63
  have : k.toNat < xs.length := (List.getElem?_eq_some_iff.mp he).1
  exact getItem_listL pl.isList k0 (by omega) ew ⟨v, H, I, rw', q⟩
end
end L2
namespace L2
open PySem
theorem drop_bm_cps {K : PySem.W.Frag} {T : String} {r : V → List V → Hp → VK → Prop} {to : TE} {t : TA} {D : Ends} {σ : St} {H : Hp} (P : V → Hp → Prop) (h1 : ∀ Q' : VK, (∀ v H', P v H' → Q' v H') → to σ H Q') (h2 : ∀ v H', P v H' → tyV K T v H' ∧ t σ H' fun xs H2 => r v xs H2 fun _ H3 => D.nx σ H3) : tDrop (tBM K T r to t) D σ H := h1 _ h2
end L2
set_option Elab.async false
set_option linter.all false
set_option maxRecDepth 100000
set_option maxHeartbeats 4000000
namespace L2
open PySem PySem.Spec PyProof.Rows
section
variable {X : Cx} {K : PySem.W.Frag}
end
/-! ### texts put together -/
def cat : List Str → Str
  | [] => Str.empty
  | x :: xs => x ++ cat xs
end L2
set_option Elab.async false
set_option linter.all false
set_option maxRecDepth 100000
set_option maxHeartbeats 4000000
namespace L2
open PySem PySem.Spec PyProof.Rows
section
variable {X : Cx} {body suite : List Stmt} {b0 : Stmt} {cn : Str} {Dc : Addr} {tb : (St → XK) → TS} {th : TS} {cp hpos pos : Pos}
end
end L2
namespace L2
open PySem PySem.Spec PyProof.Rows
section
variable {X : Cx}
def CDivB (i j : Int) : Prop := 0 < j ∧ j < 1329227995784915872903807060280344576
theorem op_fdivB : OpR X (binaryOp .FloorDiv) (rI CDivB fun i j => .int (i / j)) := opI fun i j _ _ _ _ _ hc q => by
  have h1 : (0 : Int) < j := hc.1
  have h2 : j < 1329227995784915872903807060280344576 := hc.2
  refine floordiv_int (by omega) (by rw [Int.fdiv_eq_ediv_of_nonneg i (by omega)]; exact q) (.inl ?_)
  unfold Builtin.divisionGoesByPylong
  have hn : j.natAbs < 2 ^ 120 := by omega
  have hl : j.natAbs.log2 < 120 := (Nat.log2_lt (by omega)).mpr hn
  have hz : (j == 0) = false := by
    rw [beq_eq_false_iff_ne]
    omega
  simp only [hz, Bool.false_eq_true, if_false]
  have : ¬ j.natAbs.log2 / 30 + 1 > 300 := by omega
  rw [decide_eq_false this, Bool.false_and]
end
end L2
set_option Elab.async false
set_option linter.all false
set_option maxRecDepth 100000
set_option maxHeartbeats 4000000
namespace L2
open PySem PySem.Spec PyProof.Rows
section
variable {X : Cx} {pins : List (Addr × Obj)} {σ : St} {H : Hp} {s : Shared} {d : Addr} {u u' : HO}
/-- what an object is held as is changed, the object stays -/
theorem Inv.retag (I : Inv X pins σ H s) (e : H d = some u) (h1 : ∀ xs, u ≠ .tup xs) (h2 : ∀ a, u ≠ .own a) (h3 : ∀ ps, u ≠ .tbl ps) (hz : ∀ o v, X.H₀ d ≠ some (.frz o v)) (ok : ObjOk X.prog X.w (upd H d u') s.heap d u') : Inv X pins σ (upd H d u') s := by
  have nd : ∀ {b : Addr}, H b = none → b ≠ d := fun q z => by rw [z, e] at q; cases q
  have ht : ∀ b xs, H b = some (HO.tup xs) → (upd H d u') b = some (HO.tup xs) := fun b xs q => by
    have : b ≠ d := fun z => by rw [z, e] at q; exact h1 xs (Option.some.inj q)
    rw [upd_ne this]; exact q
  refine ⟨I.ok, I.os, I.bare, ⟨I.base.keep, I.base.slot, fun b o q n hx => ?_, I.base.there, fun b xs q => ht b xs (I.base.tups b xs q), fun b o v q => ?_, fun b ps q => ?_⟩, I.loc, I.cell, ?_, fun x c q => ?_, fun p hp => ?_, fun b v q => ?_, I.len⟩
  · have := I.base.free b o q n hx
    rw [upd_ne (nd this)]; exact this
  · have := I.base.frzs b o v q
    have nb : b ≠ d := fun z => by rw [z] at q; exact hz o v q
    rw [upd_ne nb]; exact this
  · obtain ⟨more, r⟩ := I.base.tbls b ps q
    have nb : b ≠ d := fun z => by rw [z, e] at r; exact h3 _ (Option.some.inj r)
    exact ⟨more, by rw [upd_ne nb]; exact r⟩
  · rw [upd_ne (nd I.free)]; exact I.free
  · rw [upd_ne (nd (I.freeC x c q))]; exact I.freeC x c q
  · obtain ⟨q1, q2, q3⟩ := I.pin p hp
    exact ⟨q1, by rw [upd_ne (nd q2)]; exact q2, q3⟩
  · by_cases hb : b = d
    · subst hb
      rw [upd_same] at q
      cases q
      exact ok
    · rw [upd_ne hb] at q
      refine (I.hok b v q).stay (fun _ _ _ r => r) (fun c r => ?_) ht
      have : c ≠ d := fun z => by rw [z, e] at r; exact h2 _ (Option.some.inj r)
      rw [upd_ne this]; exact r
end
/-! ### over a dict's keys: the dict is held as it stands till the walk is over -/
section
variable {X : Cx} {tg : Expr}
end
section
variable {d D : Addr} {o : Obj} {kvs : List (Key × V)} {tc : TT} {te : TE} {Q : VK} {rest : St} {H1 : Hp}
end
/-! ### let go again -/
end L2
set_option Elab.async false
set_option linter.all false
set_option maxRecDepth 100000
set_option maxHeartbeats 4000000
namespace L2
open PySem PySem.Spec PyProof.Rows
/-! ### range downwards -/
section
variable {X : Cx} {tg : Expr}
/-! ### the least of a list -/
end
end L2
set_option Elab.async false
set_option linter.all false
set_option maxRecDepth 100000
set_option maxHeartbeats 4000000
namespace L2
open PySem PySem.Spec PyProof.Rows
/-! ### reversed of a list -/
section
variable {X : Cx} {tg : Expr}
/-! ### list(range(a, b)) -/
end
end L2
set_option Elab.async false
set_option linter.all false
set_option maxRecDepth 100000
set_option maxHeartbeats 4000000
namespace L2
open PySem PySem.Spec PyProof.Rows
/-! ### in, for lists of data -/
section
variable {X : Cx}
end
end L2
set_option Elab.async false
set_option linter.all false
set_option maxRecDepth 100000
set_option maxHeartbeats 4000000
namespace L2
open PySem PySem.Spec PyProof.Rows
/-! ### a def that may raise, where it doesn't -/
/-! ### data that stay -/
section
variable {H H' : Hp}
mutual
theorem Dat.same (k : Same H H') : ∀ (d : PyData) {v : V}, Dat H v d → Dat H' v d
  | .none, _, h => by simp only [Dat] at h ⊢; exact h
  | .bool _, _, h => by simp only [Dat] at h ⊢; exact h
  | .int _, _, h => by simp only [Dat] at h ⊢; exact h
  | .str _, _, h => by simp only [Dat] at h ⊢; exact h
  | .list ds, _, h => by simp only [Dat] at h ⊢; obtain ⟨a, vs, e, q, r⟩ := h; exact ⟨a, vs, e, k _ _ q, Dats.same k ds r⟩
  | .tuple ds, _, h => by simp only [Dat] at h ⊢; obtain ⟨a, vs, e, q, r⟩ := h; exact ⟨a, vs, e, k _ _ q, Dats.same k ds r⟩
  | .dict _, _, h => by simp only [Dat] at h
theorem Dats.same (k : Same H H') : ∀ (ds : List PyData) {vs : List V}, Dats H vs ds → Dats H' vs ds
  | [], [], _ => by simp only [Dats]
  | d :: ds, v :: vs, h => by simp only [Dats] at h ⊢; exact ⟨Dat.same k d h.1, Dats.same k ds h.2⟩
  | _ :: _, [], h => by simp only [Dats] at h
  | [], _ :: _, h => by simp only [Dats] at h
end
end
/-! ### isinstance(x, (t1, t2)) of plain data -/
section
variable {X : Cx} {K : PySem.W.Frag}
end
section
variable {K : PySem.W.Frag} {a D : Addr} {xs : List V} {tc : TT} {te : TE} {Q : VK} {rest : St} {H1 : Hp}
theorem imms_fm {f : Nat → Option PyData} (hf : ∀ i d, f i = some d → imm d = true) : ∀ l : List Nat, imms (l.filterMap f) = true
  | [] => rfl
  | i :: l => by
    rw [List.filterMap_cons]
    cases e : f i with
    | none => exact imms_fm hf l
    | some d => simp only [imms, hf i d e, imms_fm hf l, Bool.and_self]
/-- items that are new data of their own, over a list, some left out -/
theorem comp_datL (f : Nat → Option PyData) (hf : ∀ i d, f i = some d → imm d = true) (hD : H1 D = none) (hq : SqL K H1 a xs) (hx : xs.length ≤ 100000)
    (hs : ∀ i x H (G : Hp → Prop) (F : VK), xs[i]? = some x → Same H1 H → (∀ H', Same H H' → f i = none → G H') → (∀ y d H', Same H H' → f i = some d → Dat H' y d → F y H') → tc (some x :: rest) H fun b H3 => if b = true then te (some x :: rest) H3 F else G H3)
    (hd : ∀ H vs, Same H1 H → H D = some (.lst vs) → Dats H vs ((List.range xs.length).filterMap f) → Q (.ref D) H) : CompW (Itl K a) (gName 0) tc te Q D (none :: rest) H1 := by
  refine comp_list (K := K) (xs := xs) (fun i σ H => (∃ v, σ = v :: rest) ∧ Same H1 H ∧ ∃ vs, H D = some (.lst vs) ∧ Dats H vs ((List.range i).filterMap f)) ⟨⟨none, rfl⟩, same_new hD, [], upd_same, by simp [Dats]⟩ (fun i σ H _ ⟨_, sm, _⟩ => sm.sqL _ _ hq) ?_ (fun σ H ⟨_, sm, vs, e, d⟩ => hd H vs sm e d)
  rintro i x σ H hi ⟨⟨v, rfl⟩, sm, vs, e, d⟩
  have hil : i < xs.length := (List.getElem?_eq_some_iff.mp hi).1
  have im := imms_fm hf (List.range i)
  refine hs i x H _ _ hi sm (fun H3 s3 ef => ⟨⟨_, rfl⟩, sm.trans s3, vs, s3 _ _ e, ?_⟩) (fun y dd H4 s4 ef dy => ?_)
  · rw [fm_succ, ef]
    simpa using Dats.keep s3.tups _ im d
  · have hl : vs.length ≤ i := by rw [d.length]; exact fm_len f i
    have kp : Kp D H4 (upd H4 D (.lst (vs ++ [y]))) := Kp.set
    have tp := kp.tups (s4 _ _ e)
    refine ⟨vs, s4 _ _ e, ?_, ⟨_, rfl⟩, (sm.trans s4).newly hD, vs ++ [y], upd_same, ?_⟩
    · rw [sizeLine_eq]; omega
    · rw [fm_succ, ef]
      exact dats_snoc (Dats.keep (fun a xs h => tp _ _ (s4.tups _ _ h)) _ im d) (Dat.keep tp _ (hf i dd ef) dy)
end
/-! ### t + u, any tuples -/
section
variable {X : Cx}
end
end L2
set_option Elab.async false
set_option linter.all false
set_option maxRecDepth 100000
set_option maxHeartbeats 4000000
namespace L2
open PySem PySem.Spec PyProof.Rows
theorem Room.units1 {k : Nat} {A : Around} (r : Room k A) : A.in1.units + 64 < cLine := by have := r.un; show A.units + 1 + 64 < _; omega
/-! ### xs[::-1] -/
def tRev (K : PySem.W.Frag) (te tk : TE) : TE := fun σ H Q => te σ H fun x H1 => tk σ H1 fun k H2 => ∃ a xs, x = .ref a ∧ k = .int (-1) ∧ SqL K H2 a xs ∧ ∀ p, H2 p = none → Q (.ref p) (upd H2 p (.lst xs.reverse))
theorem vals_rev : ∀ {xs : List V} {us : List Value}, Vals xs us → Vals xs.reverse us.reverse
  | [], _, .nil => .nil
  | _ :: _, _, .cons r rs => by
    rw [List.reverse_cons, List.reverse_cons]
    exact (vals_rev rs).append (.cons r .nil)
section
variable {X : Cx} {K : PySem.W.Frag} {e st : Expr} {te tk : TE} {pos p2 : Pos}
theorem pe_revSl (hK : X.K = K) (he : PE X e te) (hk : PE X st tk) : PE X (.Subscript e (.Slice none none (some st) p2) pos) (tRev K te tk) := by
  subst hK
  intro pins s σ H Q I h
  refine Subscript_ (thn (he pins s σ H _ I h) fun v s1 ⟨x, H1, I1, r1, q1⟩ => ?_)
  refine wpAny_Slice ?_
  rw [evalPart_none, evalPart_some]
  refine wpAny_pure (wpAny_pure ?_)
  refine thn (hk pins s1 σ H1 _ I1 q1) fun vk s3 ⟨k, H3, I3, rk, q3⟩ => ?_
  obtain ⟨a, xs, rfl, rfl, hx, q⟩ := q3
  cases r1
  obtain ⟨tt, rfl⟩ := rk
  have I4 : Inv X pins σ H3 { s3 with heap := s3.heap.push { cls := .type "slice", data := .fields #[.none, .none, .int (-1) tt] } } := I3.kept (t' := s3.toks) fun b ob q => Heap.get?_push_of_some _ q
  obtain ⟨its, r, ht, hz⟩ := I4.list hx
  have hlen := r.length
  show wpAny (model X.prog X.w) X.A (subscriptTail e (.Slice none none (some st) p2) (.ref a) (.ref s3.heap.objs.size)) (EP X pins σ Q) X.xe { s3 with heap := s3.heap.push { cls := .type "slice", data := .fields #[.none, .none, .int (-1) tt] } }
  refine tail_any (ops := [.ref a, .ref s3.heap.objs.size]) (T := "list") ht.isList.typeIs slot_list_getitem.lookup ?_ (by with_unfolding_all rfl)
  refine wpAny_getItem_list_slice ht.isList (Heap.IsSliceOf.new ..) .none .none (.int (-1) tt) (by decide) ?_ (by rw [List.size_toArray] <;> omega)
  rw [PySem.W.krv_pick]
  refine ⟨.ref (s3.heap.push { cls := .type "slice", data := .fields #[.none, .none, .int (-1) tt] }).objs.size, _, I4.laid (t' := s3.toks) (o := .lst xs.reverse) (fun b ob q => Heap.get?_push_of_some _ q) (Nat.le_refl _) ?_, rfl, q _ (I4.hok.fresh (Nat.le_refl _))⟩
  exact ⟨by rw [List.length_reverse]; exact hz, _, 0, vals_rev r, Heap.get?_push_size _ rfl⟩
end
end L2
set_option Elab.async false
set_option linter.all false
set_option maxRecDepth 100000
set_option maxHeartbeats 4000000
namespace L2
open PySem PySem.Spec PyProof.Rows
/-! ### data are one -/
section
variable {H : Hp}
mutual
theorem Dat.fn : ∀ (d e : PyData) {v : V}, Dat H v d → Dat H v e → d = e
  | .none, e, v, h, g => by cases e <;> simp only [Dat] at h g <;> first | rfl | (subst h; first | (obtain ⟨_, _, z, _⟩ := g; cases z; done) | (cases g; done))
  | .bool _, e, v, h, g => by cases e <;> simp only [Dat] at h g <;> first | (subst h; first | (injection g with g; rw [g]; done) | (obtain ⟨_, _, z, _⟩ := g; cases z; done) | (cases g; done))
  | .int _, e, v, h, g => by cases e <;> simp only [Dat] at h g <;> first | (subst h; first | (injection g with g; rw [g]; done) | (obtain ⟨_, _, z, _⟩ := g; cases z; done) | (cases g; done))
  | .str _, e, v, h, g => by cases e <;> simp only [Dat] at h g <;> first | (subst h; first | (injection g with g; rw [g]; done) | (obtain ⟨_, _, z, _⟩ := g; cases z; done) | (cases g; done))
  | .list ds, .list es, v, h, g => by
    simp only [Dat] at h g
    obtain ⟨a, vs, rfl, ha, da⟩ := h
    obtain ⟨b, ws, e, hb, db⟩ := g
    injection e with e
    subst e
    rw [ha] at hb
    injection hb with hb
    injection hb with hb
    subst hb
    rw [Dats.fn ds es da db]
  | .tuple ds, .tuple es, v, h, g => by
    simp only [Dat] at h g
    obtain ⟨a, vs, rfl, ha, da⟩ := h
    obtain ⟨b, ws, e, hb, db⟩ := g
    injection e with e
    subst e
    rw [ha] at hb
    injection hb with hb
    injection hb with hb
    subst hb
    rw [Dats.fn ds es da db]
  | .list ds, .tuple es, v, h, g => by
    simp only [Dat] at h g
    obtain ⟨a, vs, rfl, ha, da⟩ := h
    obtain ⟨b, ws, e, hb, db⟩ := g
    injection e with e
    subst e
    rw [ha] at hb
    injection hb with hb
    cases hb
  | .tuple ds, .list es, v, h, g => by
    simp only [Dat] at h g
    obtain ⟨a, vs, rfl, ha, da⟩ := h
    obtain ⟨b, ws, e, hb, db⟩ := g
    injection e with e
    subst e
    rw [ha] at hb
    injection hb with hb
    cases hb
  | .list ds, .none, v, h, g => by simp only [Dat] at h g; obtain ⟨a, vs, rfl, _⟩ := h; cases g
  | .list ds, .bool _, v, h, g => by simp only [Dat] at h g; obtain ⟨a, vs, rfl, _⟩ := h; cases g
  | .list ds, .int _, v, h, g => by simp only [Dat] at h g; obtain ⟨a, vs, rfl, _⟩ := h; cases g
  | .list ds, .str _, v, h, g => by simp only [Dat] at h g; obtain ⟨a, vs, rfl, _⟩ := h; cases g
  | .tuple ds, .none, v, h, g => by simp only [Dat] at h g; obtain ⟨a, vs, rfl, _⟩ := h; cases g
  | .tuple ds, .bool _, v, h, g => by simp only [Dat] at h g; obtain ⟨a, vs, rfl, _⟩ := h; cases g
  | .tuple ds, .int _, v, h, g => by simp only [Dat] at h g; obtain ⟨a, vs, rfl, _⟩ := h; cases g
  | .tuple ds, .str _, v, h, g => by simp only [Dat] at h g; obtain ⟨a, vs, rfl, _⟩ := h; cases g
  | .list ds, .dict _, v, h, g => by simp only [Dat] at g
  | .tuple ds, .dict _, v, h, g => by simp only [Dat] at g
  | .dict _, _, v, h, g => by simp only [Dat] at h
theorem Dats.fn : ∀ (ds es : List PyData) {vs : List V}, Dats H vs ds → Dats H vs es → ds = es
  | [], [], _, _, _ => rfl
  | d :: ds, e :: es, v :: vs, h, g => by
    simp only [Dats] at h g
    rw [Dat.fn d e h.1 g.1, Dats.fn ds es h.2 g.2]
  | [], _ :: _, [], _, g => by simp only [Dats] at g
  | [], _ :: _, _ :: _, h, _ => by simp only [Dats] at h
  | _ :: _, [], [], h, _ => by simp only [Dats] at h
  | _ :: _, [], _ :: _, _, g => by simp only [Dats] at g
  | _ :: _, _ :: _, [], h, _ => by simp only [Dats] at h
end
end
/-! ### xs.index(x), of tuples -/
section
variable {X : Cx}
end
end L2
set_option Elab.async false
set_option linter.all false
set_option maxRecDepth 100000
set_option maxHeartbeats 4000000
namespace L2
open PySem PySem.Spec PyProof.Rows
/-! ### f"..{n}" -/
section
variable {X : Cx} {K : PySem.W.Frag} {e e1 e2 l : Expr} {te t1 t2 tl : TE} {pos : Pos} {tg : Expr}
/-! ### walking a list or a tuple -/
end
section
variable {X : Cx}
end
end L2
set_option Elab.async false
set_option linter.all false
set_option maxRecDepth 100000
set_option maxHeartbeats 4000000
namespace L2
open PySem PySem.Spec PyProof.Rows PySem.Builtin PySem.Builtin.Str
/-! ### texts taken apart -/
section
variable {X : Cx} {K : PySem.W.Frag}
/-! ### the signs of a text, one by one -/
end
section
variable {K : PySem.W.Frag} {D : Addr} {tc : TT} {te : TE} {Q : VK} {rest : St} {H1 : Hp}
end
section
variable {X : Cx}
end
end L2
set_option Elab.async false
set_option linter.all false
set_option maxRecDepth 100000
set_option maxHeartbeats 4000000
namespace L2
open PySem PySem.Spec PyProof.Rows PySem.Builtin PySem.Builtin.Str
/-! ### a text put together of parts without the sign between, taken apart there again -/
/-! ### the texts of the numbers below 1000 -/
end L2
set_option Elab.async false
set_option linter.all false
set_option maxRecDepth 100000
set_option maxHeartbeats 4000000
namespace L2
open PySem PySem.Spec PyProof.Rows
/-! ### classes: methods and instances made -/
section
variable (P : Program) (w : World) (K : PySem.W.Frag) (mg : Str → Option Value) (base : Heap)
end
section
variable {P : Program} {w : World} {K : PySem.W.Frag} {mg : Str → Option Value} {base : Heap} {k : Nat} {C : Addr} {m x : Str} {ps : List Str} {sp : Sp} {dvs : List V}
end
section
variable {X : Cx} {k : Nat} {C : Addr} {x m : Str} {ps : List Str} {sp : Sp} {dvs : List V} {e o : Expr} {es : List Expr} {ta : TE} {t : TA} {p pos apos : Pos} {E : St → XK}
end
end L2
namespace L2
open PySem PySem.Spec PyProof.Rows PySem.Builtin PySem.Builtin.Str
/-! ### more of classes and texts -/
section
variable {X : Cx} {K : PySem.W.Frag} {o e value : Expr} {f : Str} {pos pos' tpos : Pos} {ta tv : TE}
end
/-! ### a def with defaults -/
structure FunD (K : PySem.W.Frag) (x qual : Str) (st : Stmt) (ds : List Value) (f : Addr) (fd : FuncData) : Prop where
  ex : ∃ (oc : Value) (od : Option Addr) (T : Addr) (kV doc pm : Value) (an : Option Addr) (cdv ct : Value) (osl : Array (Option Value)) (tc : Value) (td : Option Addr) (tn : Nat) (tsl : Array (Option Value)),
    fd = PySem.W.fnOf x qual (defArgs st) (defBody st) (defScope st) (.ref T) kV doc pm an cdv ct ∧ K.lookup f = some ⟨oc, od, .func fd, osl⟩ ∧ PySem.W.codeIn K cdv qual = true ∧ K.lookup T = some ⟨tc, td, .seq ds.toArray tn, tsl⟩
  kp : PySem.W.keepIn K (.ref f) = true
section
variable {P : Program} {w : World} {K : PySem.W.Frag} {mg : Str → Option Value} {base : Heap}
theorem FunD.okX {x qual : Str} {st : Stmt} {ds : List Value} {f : Addr} {fd : FuncData} {N ps : List Str} {k : Nat} {sp : Sp} (F : FunD K x qual st ds f fd) (S : FnScope N ps (defScope st)) (len : ∀ vs H Q E, sp vs H Q E → vs.length = ps.length)
    (hbody : ∀ (cdv : Value) (A : Around) (outer : List Env) (s : Shared) (H : Hp) (vs : List V) (Q : VK) (E : XK), Room k (A.deeper (envOfC qual (defScope st) s.heap.objs.size f cdv)) → sp vs H Q E →
      Rz (cxOf (CX1 P w) P w K mg base N qual (defScope st) f cdv A outer s H E) (fun _ => E) →
      ∃ t, PSs (cxOf (CX1 P w) P w K mg base N qual (defScope st) f cdv A outer s H E) (defBody st) t ∧ t { nx := fun _ H' => Q .non H', rt := Q } (start N vs) H) : FnOk P w K mg base (CX1 P w) (k + 1) f fd ps sp := by
  obtain ⟨oc, od, T, kV, doc, pm, an, cdv, ct, osl, tc, td, tn, tsl, rfl, lk, hcd, _⟩ := F.ex
  exact fn_of lk hcd S len fun A outer s H vs Q E hr hsp => hbody cdv A outer s H vs Q E hr hsp rz_leave
end
/-! ### an instance made with the last parameter by its name -/
section
variable {X : Cx} {k : Nat} {C : Addr} {x kn : Str} {ps : List Str} {sp : Sp} {e ke : Expr} {es : List Expr} {te : TE} {t : TA} {p pos kpos : Pos} {E : St → XK}
end
end L2
set_option Elab.async false
set_option linter.all false
set_option maxRecDepth 100000
set_option maxHeartbeats 4000000
namespace L2
open PySem PySem.Spec PyProof.Rows
/-! ### the keys of any dict, one by one: the entries as they stand, whatever the keys are -/
section
variable {prog : Program} {w : World} {A : Around} {E : Value → Shared → Prop} {s : Shared} {it d : Addr} {ep : Nat} {od : Obj} {es : Array DictEntry}
theorem keys_begin {Q : Value → Shared → Prop} (nsm : (d == sysModules) = false) (ho : s.heap.get? d = some od) (hx : od.ExactDict) (he : od.data = .dict es ep)
    (k : Q (.ref s.heap.objs.size) { s with heap := s.heap.push { cls := .type "dict_keyiterator", data := .fields #[.ref d, .int 0 0, .int es.size 0, .int ep 0] } }) : wpAny (model prog w) A (pyIter (.ref d)) Q E s := by
  have ty : s.TypeIs (.ref d) "dict" := ⟨od, ho, hx.1⟩
  refine wpAny_pyIter_slot ty F.slot_dict_iter (wpAny_call_entry F.slot_dict_iter ty F.entry_dict_iter (by
    unfold Builtin.«dict.__iter__» Builtin.Dict.dictSlotNone; refine wpAny_bind (wpAny_bind (wpAny_notOrdered_dict ty ?_))
    show wpAny _ _ (pure (Value.ref d)) _ _ s; refine wpAny_pure ?_
    show wpAny _ _ (Builtin.Dict.showsAll d >>= _) _ _ s; unfold Builtin.Dict.showsAll; rw [nsm]; rw [if_neg Bool.false_ne_true]
    refine wpAny_bind (wpAny_pure (wpAny_bind (wpAny_dictEntries ho he (wpAny_bind (wpAny_dictEpoch ho he (wpAny_bind (wpAny_newObj_type (wpAny_pure ?_))))))))
    exact ⟨_, rfl, "dict_keyiterator", _, ⟨_, Heap.get?_push_size _ rfl, rfl⟩, F.slot_dict_keyiterator_next.lookup, by simpa [rawInt] using k⟩) (F.args_dict_iter_1 _))
/-- the walk's step, as far as it is one for all: the iterator's fields, the dict's entries -/
theorem keys_item {i : Nat} {Q : Option Value → Shared → Prop} (st : s.heap.IsKeyIter it d i es.size ep) (ho : s.heap.get? d = some od) (he : od.data = .dict es ep) (hi : i < es.size)
    (k : ∀ h', h'.IsKeyIter it d (i + 1) es.size ep → Heap.SameBut it s.heap h' → Q (some es[i].key) { s with heap := h' }) : wpAny (model prog w) A (pyNext (.ref it)) Q E s := by
  obtain ⟨oi, hoi, ci, di⟩ := id st
  have ty := st.typeIs
  have nown : Builtin.Dict_items.ownsTuple "dict_keyiterator" = false := by decide
  have nneg : ¬ ((i : Int) < 0) := by omega
  have st' : (s.heap.update it (Obj.mapFields (·.setIfInBounds 1 (rawInt ((i : Int) + 1))))).IsKeyIter it d (i + 1) es.size ep :=
    ⟨_, Heap.get?_update_self _ hoi (Obj.isFreed_of_fields (Obj.data_mapFields di _)), by rw [Obj.cls_mapFields]; exact ci, by rw [Obj.data_mapFields di]; simp [rawInt]⟩
  unfold pyNext
  refine wpAny_bind (wpAny_attempt (wpAny_callSpecial?_slot (name := Str.ofString "__next__") ty F.slot_dict_keyiterator_next (wpAny_call_entry F.slot_dict_keyiterator_next ty F.entry_dict_keyiterator_next (by
    refine wpAny_bind (wpAny_pure (wpAny_bind (wpAny_bind ?_)))
    refine wpAny_bind (wpAny_typeNameOfWhole_keyiter ty (wpAny_pure (wpAny_bind (wpAny_fieldsOf hoi di ?_))))
    rw [nown]; simp only [Bool.false_eq_true, if_false]
    show wpAny _ _ (if (Value.ref d == Value.none) = true then _ else _) _ _ s; rw [show (Value.ref d == Value.none) = false from rfl]; rw [if_neg Bool.false_ne_true]
    refine wpAny_bind (wpAny_pure (wpAny_bind (wpAny_dictEntries ho he ?_)))
    rw [if_neg (by simp)]; refine wpAny_bind (wpAny_pure (wpAny_bind (wpAny_dictEpoch ho he ?_))); rw [if_neg (by simp)]; refine wpAny_pure ?_
    simp only [nneg, if_false, Int.toNat_natCast, Array.getElem?_eq_getElem hi]
    refine wpAny_bind (wpAny_bind (wpAny_typeNameOfWhole_keyiter ty (wpAny_pure (wpAny_bind (wpAny_isOneOf_keyiter ty ?_)))))
    show wpAny _ _ (setField (.ref it) 1 (rawInt ((i : Int) + 1)) >>= _) _ _ s; refine wpAny_bind (wpAny_setField hoi di (by simp) ?_)
    refine wpAny_bind (wpAny_holding (wpAny_bind (wpAny_isOneOf_keyiter (s := { s with heap := s.heap.update it (Obj.mapFields (·.setIfInBounds 1 (rawInt ((i : Int) + 1)))) }) st'.typeIs ?_)))
    show wpAny _ _ (pure es[i].key) _ _ _; exact wpAny_pure (wpAny_pure ⟨_, rfl, wpAny_pure (k _ st' (Heap.SameBut.update ..))⟩)) (F.args_dict_keyiterator_next_1 _))))
theorem keys_end {i : Nat} {Q : Option Value → Shared → Prop} (calm : A.handled = none) (st : s.heap.IsKeyIter it d i es.size ep) (ho : s.heap.get? d = some od) (he : od.data = .dict es ep) (hi : es.size ≤ i)
    (k : ∀ h', Heap.ExtBut it s.heap h' → Q none { s with heap := h' }) : wpAny (model prog w) A (pyNext (.ref it)) Q E s := by
  obtain ⟨oi, hoi, ci, di⟩ := id st
  have ty := st.typeIs
  have nown : Builtin.Dict_items.ownsTuple "dict_keyiterator" = false := by decide
  have nneg : ¬ ((i : Int) < 0) := by omega
  unfold pyNext
  refine wpAny_bind (wpAny_attempt (wpAny_callSpecial?_slot (name := Str.ofString "__next__") ty F.slot_dict_keyiterator_next (wpAny_call_entry F.slot_dict_keyiterator_next ty F.entry_dict_keyiterator_next (by
    refine wpAny_bind (wpAny_pure (wpAny_bind (wpAny_bind ?_)))
    refine wpAny_bind (wpAny_typeNameOfWhole_keyiter ty (wpAny_pure (wpAny_bind (wpAny_fieldsOf hoi di ?_))))
    rw [nown]; simp only [Bool.false_eq_true, if_false]
    show wpAny _ _ (if (Value.ref d == Value.none) = true then _ else _) _ _ s; rw [show (Value.ref d == Value.none) = false from rfl]; rw [if_neg Bool.false_ne_true]
    refine wpAny_bind (wpAny_pure (wpAny_bind (wpAny_dictEntries ho he ?_)))
    rw [if_neg (by simp)]; refine wpAny_bind (wpAny_pure (wpAny_bind (wpAny_dictEpoch ho he ?_))); rw [if_neg (by simp)]; refine wpAny_pure ?_
    simp only [nneg, if_false, Int.toNat_natCast, Array.getElem?_eq_none hi]
    refine wpAny_bind (wpAny_bind (wpAny_typeNameOfWhole_keyiter ty (wpAny_pure ?_)))
    show wpAny _ _ (setField (.ref it) 0 .none >>= _) _ _ s; refine wpAny_bind (wpAny_setField hoi di (by simp) ?_)
    show wpAny _ _ (newExc (.type "StopIteration") [] >>= _) _ _ _; refine wpAny_bind ?_
    simp only [newExc, newTuple]; refine wpAny_bind (wpAny_newObj_type ?_ (by size_fits))
    refine wpAny_bind (m := firstArgMember _ _) (wpAny_of_eq (a := Value.none) (by first | rfl | (simp only [firstArgMember]; rfl)) (wpAny_newObj_type ?_ (by size_fits)))
    simp only [raiseNew]; refine wpAny_bind (wpAny_handled ?_); rw [show A.in1.handled = none from calm]
    refine wpAny_bind (wpAny_pure (wpAny_throw ?_)); refine wpAny_bind (wpAny_isInstance (T := "StopIteration") (b := true) ⟨_, Heap.get?_push_size _ rfl, rfl⟩ isSubtype_stop ?_)
    exact wpAny_pure (k _ (((Heap.SameBut.update ..).extBut.push _).push _))) (F.args_dict_keyiterator_next_1 _))))
end
end L2
set_option Elab.async false
set_option linter.all false
set_option maxRecDepth 100000
set_option maxHeartbeats 4000000
namespace L2
open PySem PySem.Spec PyProof.Rows
section
variable {X : Cx} {pins : List (Addr × Obj)} {σ : St} {H : Hp} {s : Shared} {d : Addr}
theorem kt_upd {kvs : List (List Key × V)} {xs : List (List Key × Addr × Value)} {u v : HO} (r : KT H kvs xs) (e : H d = some u) (h1 : ∀ ys, u ≠ .tup ys) : KT (upd H d v) kvs xs := by
  refine Paired.mapP r fun p q z => ⟨z.1, ?_, z.2.2⟩
  have : q.2.1 ≠ d := fun w => by rw [w, e] at z; exact h1 _ (Option.some.inj z.2.1)
  rw [upd_ne this]
  exact z.2.1
theorem Inv.nofrzT {kvs : List (List Key × V)} (I : Inv X pins σ H s) (e : H d = some (.dT kvs)) : ∀ o v, X.H₀ d ≠ some (.frz o v) := fun o v q => by
  have := I.base.frzs d o v q
  rw [e] at this
  cases this
theorem Inv.freezeT {kvs : List (List Key × V)} {o : Obj} (I : Inv X pins σ H s) (e : H d = some (.dT kvs)) (ho : s.heap.get? d = some o) : Inv X pins σ (upd H d (.frz o (.dT kvs))) s := by
  refine I.retag e (fun _ z => by cases z) (fun _ z => by cases z) (fun _ z => by cases z) (I.nofrzT e) ⟨ho, ?_⟩
  obtain ⟨z, y, xs, r, dd⟩ := (show ObjOk X.prog X.w H s.heap d (.dT kvs) from I.hok d _ e)
  exact ⟨z, y, xs, kt_upd r e (fun _ z => by cases z), dd⟩
theorem Inv.thawT {kvs : List (List Key × V)} {o : Obj} (I : Inv X pins σ H s) (e : H d = some (.frz o (.dT kvs))) (hz : ∀ o v, X.H₀ d ≠ some (.frz o v)) : Inv X pins σ (upd H d (.dT kvs)) s := by
  refine I.retag e (fun _ z => by cases z) (fun _ z => by cases z) (fun _ z => by cases z) hz ?_
  obtain ⟨_, z, y, xs, r, dd⟩ := (show ObjOk X.prog X.w H s.heap d (.frz o (.dT kvs)) from I.hok d _ e)
  exact ⟨z, y, xs, kt_upd r e (fun _ z => by cases z), dd⟩
end
/-! ### over the keys of a dict whose keys are tuples -/
def ItdT (d : Addr) (o : Obj) (kvs : List (List Key × V)) : It :=
  ⟨fun i H => i < kvs.length ∧ H d = some (.frz o (.dT kvs)), fun i H x H' => H' = H ∧ ∃ k v b, kvs[i]? = some (k, v) ∧ x = .ref b ∧ H b = some (.tup (k.map kV)), fun i H => kvs.length ≤ i ∧ H d = some (.frz o (.dT kvs))⟩
theorem kt_get {H : Hp} {kvs : List (List Key × V)} {xs : List (List Key × Addr × Value)} (r : KT H kvs xs) : ∀ (i : Nat) (k : List Key) (v : V), kvs[i]? = some (k, v) → ∃ q, xs[i]? = some q ∧ H q.2.1 = some (.tup (k.map kV)) := by
  induction r with
  | nil => intro i k v h; cases h
  | @cons p q ps qs h r ih =>
    intro i k v e
    cases i with
    | zero =>
      have e' : p = (k, v) := Option.some.inj e
      subst e'
      exact ⟨q, rfl, h.2.1⟩
    | succ i => exact ih i k v (by simpa using e)
theorem turn_dictT {P : Program} {w : World} {K : PySem.W.Frag} {tg : Expr} (d it : Addr) (o : Obj) (kvs : List (List Key × V)) (es : Array DictEntry) (ep : Nat) (hd : o.data = .dict es ep) : Turn P w K tg (ItdT d o kvs) [it] it (fun i h => h.IsKeyIter it d i es.size ep) where
  mem := by simp
  obj := fun i h st b hb => by
    have e : b = it := by simpa using hb
    subst e
    obtain ⟨o, e, c, d⟩ := st
    exact ⟨o, e, fun v z => by rw [d] at z; cases z⟩
  keep := fun i h h' st k => by
    obtain ⟨o, e, c, d⟩ := st
    exact ⟨o, k it (by simp) o e, c, d⟩
  item := by
    intro X hP hw hK hc i pins s σ H E I hf st hg
    subst hP hw hK
    obtain ⟨hi, hH⟩ := hg
    obtain ⟨ho, z, y, xs, r, o', es', ep', q1, q2, q3, q4, q5⟩ := (show ObjOk X.prog X.w H s.heap d (.frz o (.dT kvs)) from I.hok d _ hH)
    rw [ho] at q1
    cases q1
    rw [hd] at q3
    cases q3
    have hl : kvs.length = xs.length := Paired.length r
    have hsz : es.size = xs.length := by rw [← Array.length_toList, q4, List.length_map]
    obtain ⟨k, v, ekv⟩ : ∃ k v, kvs[i]? = some (k, v) := ⟨kvs[i].1, kvs[i].2, by simp [hi]⟩
    obtain ⟨q, eq, hq⟩ := kt_get r i k v ekv
    have ie : i < es.size := by omega
    have ek : es[i].key = .ref q.2.1 := by
      have e1 : es.toList[i]? = some es[i] := by simp [ie]
      rw [q4, List.getElem?_map, eq] at e1
      have := Option.some.inj e1
      rw [← this]
      rfl
    obtain ⟨f0, f1, f2, f3, f4, f5⟩ := hf it (by simp)
    refine keys_item st ho hd ie fun h' st' sb => ?_
    have I1 : Inv X pins σ H { s with heap := h' } := I.turned (t' := s.toks) (fun b o hb e => (sb.2 b hb).trans e) f0 f1 f3 f4 f5
    obtain ⟨ob, e, c, dd⟩ := id st'
    rw [ek]
    exact ⟨.ref q.2.1, rfl, go_of (s := { s with heap := h' }) e c dd (by decide) ⟨.ref q.2.1, H, I1, rfl, ⟨rfl, k, v, q.2.1, ekv, rfl, hq⟩, st', fun b hb => (hf b hb).1⟩⟩
  done := by
    intro X hP hw hK hc i pins s σ H E I hf st hg
    subst hP hw hK
    obtain ⟨hi, hH⟩ := hg
    obtain ⟨ho, z, y, xs, r, o', es', ep', q1, q2, q3, q4, q5⟩ := (show ObjOk X.prog X.w H s.heap d (.frz o (.dT kvs)) from I.hok d _ hH)
    rw [ho] at q1
    cases q1
    rw [hd] at q3
    cases q3
    have hl : kvs.length = xs.length := Paired.length r
    have hsz : es.size = xs.length := by rw [← Array.length_toList, q4, List.length_map]
    obtain ⟨f0, f1, f2, f3, f4, f5⟩ := hf it (by simp)
    exact keys_end (I.ok.hd hc) st ho hd (by omega) fun h' eb => ⟨rfl, I.turned (t' := s.toks) (fun b o hb e => eb b o hb e) f0 f1 f3 f4 f5⟩
  self := fun _ _ _ _ _ st h => wpAny_pyIter_keyiter st h
section
variable {X : Cx} {tg : Expr}
def iDictT (tl : TE) : TI := fun σ H R => tl σ H fun x H1 => ∃ d kvs, x = .ref d ∧ H1 d = some (.dT kvs) ∧ ∀ o, R (ItdT d o kvs) (upd H1 d (.frz o (.dT kvs)))
theorem pi_dictT {l : Expr} {tl : TE} (hl : PE X l tl) : PI X tg l (iDictT tl) := by
  intro pins s σ H R I h
  refine thn (hl pins s σ H _ I h) fun v s1 ⟨x, H1, I1, r1, q1⟩ => ?_
  obtain ⟨d, kvs, e, hH, q⟩ := q1
  subst e
  cases r1
  obtain ⟨z, hd, xs, r, o, es, ep, ho, q2, q3, q4, q5⟩ := (show ObjOk X.prog X.w H1 s1.heap d (.dT kvs) from I1.hok d _ hH)
  refine keys_begin hd ho q2 q3 ?_
  have If := I1.freezeT hH ho
  have nit : (upd H1 d (HO.frz o (.dT kvs))) s1.heap.objs.size = none := by
    rw [upd_ne (Ne.symm (Nat.ne_of_lt (Heap.lt_size ho)))]
    exact I1.hok.fresh (Nat.le_refl _)
  refine ⟨s1.heap.objs.size, [s1.heap.objs.size], _, _, upd H1 d (.frz o (.dT kvs)), rfl, If.kept (t' := s1.toks) fun b o e => Heap.get?_push_of_some _ e, turn_dictT d _ o kvs es ep q3, ⟨_, Heap.get?_push_size _ rfl, rfl, rfl⟩, fun b hb => ?_, q o⟩
  have e : b = s1.heap.objs.size := by simpa using hb
  subst e
  exact If.fpOk (Nat.le_refl _) nit
end
/-! ### let go again -/
def ThawT (H H' H'' : Hp) : Prop := ∃ d kvs0 o kvs, H d = some (.dT kvs0) ∧ H' d = some (.frz o (.dT kvs)) ∧ H'' = upd H' d (.dT kvs)
def sThawT (t : TS) : TS := fun D σ H => t { D with nx := fun σ' H' => ∃ H'', ThawT H H' H'' ∧ D.nx σ' H'' } σ H
theorem ps_thawT {X : Cx} {st : Stmt} {t : TS} (h : PS X st t) : PS X st (sThawT t) := by
  intro pins s σ H D I q
  refine wpAny_mono (h pins s σ H _ I q) (fun f s1 q1 => ?_) fun _ _ z => z
  cases f with
  | next =>
    obtain ⟨σ1, H1, I1, H2, ⟨d, kvs0, o, kvs, e1, e2, rfl⟩, q2⟩ := q1
    exact ⟨σ1, _, I1.thawT e2 (I.nofrzT e1), q2⟩
  | brk => exact q1
  | cont => exact q1
  | ret u => exact q1
section
variable {d D : Addr} {o : Obj} {kvs : List (List Key × V)} {tc : TT} {te : TE} {Q : VK} {rest : St} {H1 : Hp}
end
end L2
set_option Elab.async false
set_option linter.all false
set_option maxRecDepth 100000
set_option maxHeartbeats 4000000
namespace L2
open PySem PySem.Spec PyProof.Rows
section
variable {X : Cx} {k : Nat} {C : Addr} {sp : Sp}
/-- where nothing is raised -/
theorem rzF : Rz X (fun _ _ _ _ => False) := by
  intro pins σ H s e cls dx fl hf I fp xo z
  exact z.elim
end
end L2
set_option Elab.async false
set_option linter.all false
set_option maxRecDepth 100000
set_option maxHeartbeats 4000000
namespace L2
open PySem PySem.Spec PyProof.Rows
section
variable {prog : Program} {w : World} {K : Type} [DecidableEq K] {knd : HeapKind prog w K} {A : Around} {E : Value → Shared → Prop} {s : Shared}
theorem setNew_heap {d a : Addr} {xs : List (K × Addr × Value)} {k : K} {v : Value} {Q : Unit → Shared → Prop}
    (hr : knd.room A) (hk : knd.is s.heap k a) (dd : Heap.DictOfH knd s.heap d xs) (hz : xs.length ≤ sizeLine) (nk : k ∉ xs.map (·.1))
    (h2 : ∀ h', Heap.DictOfH knd h' d (xs ++ [(k, a, v)]) → Heap.SameBut d s.heap h' → Q () { s with heap := h' }) :
    wpAny (model prog w) A (dictSetHashed d (.ref a) (knd.hash k) v) Q E s := by
  unfold dictSetHashed
  refine wpAny_holding ?_
  obtain ⟨o, es, ep, ho, hx, hd, he, hi, hn⟩ := id dd
  have hl : es.size = xs.length := by rw [← Array.length_toList, he, List.length_map]
  refine wpAny_bind (wpAny_dictFind_heap hr hk ho hd he hi hn (fun hno => ?_) (fun j p hj => absurd (List.mem_map.mpr ⟨(k, p), List.mem_of_getElem? hj, rfl⟩) nk))
  refine wpAny_bind (wpAny_rule ?_)
  refine wpAny_updateDictKeys ho hd ?_ (by omega) (by simp)
  have sb := Heap.SameBut.update s.heap d (Obj.mapDictKeys fun x => x.push { hash := knd.hash k, key := .ref a, val := v })
  refine h2 _ ?_ sb
  obtain ⟨oc, od, odat, osl⟩ := o
  simp only at hd
  subst hd
  refine ⟨_, es.push { hash := knd.hash k, key := .ref a, val := v }, ep + 1, Heap.get?_update_self _ ho ?_, hx, rfl, ?_, ?_, ?_⟩
  · obtain ⟨c1, c2, c3⟩ := hx
    simp only at c1
    subst c1
    rfl
  · rw [Array.toList_push, he, List.map_append]; rfl
  · intro x hxm
    rcases List.mem_append.mp hxm with hxm | hxm
    · exact knd.keeps (hi x hxm) ho rfl sb
    · have : x = (k, a, v) := by simpa using hxm
      subst this
      exact knd.keeps hk ho rfl sb
  · rw [List.map_append]
    refine List.nodup_append.mpr ⟨hn, by simp, ?_⟩
    intro y hy z hz' e
    have : z = k := by simpa using hz'
    subst this
    subst e
    exact nk hy
theorem merge_heap {nm : String} {d o : Addr} {xs ys : List (K × Addr × Value)} {Q : Unit → Shared → Prop} (hr : knd.room A) (hdo : d ≠ o) (hoS : (o == sysModules) = false)
    (dd : Heap.DictOfH knd s.heap d xs) (od : Heap.DictOfH knd s.heap o ys) (nd : ((xs ++ ys).map (·.1)).Nodup) (few : xs = [] → ∃ y, ys = [y])
    (hz : xs.length + ys.length ≤ sizeLine)
    (qe : ∀ y ∈ ys, ∀ (R : Bool → Shared → Prop), (∀ b, R b s) → wpAny (model prog w) A (Builtin.Dict.quietEq (.ref y.2.1)) R E s)
    (hQ : ∀ h', Heap.DictOfH knd h' d (xs ++ ys) → Heap.SameBut d s.heap h' → Q () { s with heap := h' }) :
    wpAny (model prog w) A (Builtin.Dict.mergeDict nm d o) Q E s := by
  obtain ⟨dO, des, dep, dho, dhx, dhd, dhe, dhi, dhn⟩ := id dd
  obtain ⟨oO, oes, oep, oho, ohx, ohd, ohe, ohi, ohn⟩ := id od
  have osz : oes.size = ys.length := by rw [← Array.length_toList, ohe, List.length_map]
  unfold Builtin.Dict.mergeDict
  rw [if_neg (by simpa using hdo)]
  unfold Builtin.Dict.showsAll
  rw [if_neg (by rw [hoS]; exact Bool.false_ne_true)]
  refine wpAny_bind (wpAny_pure ?_)
  refine wpAny_bind (wpAny_dictEntries oho ohd ?_)
  have loop : wpAny (model prog w) A (do
      let epoch ← dictEpoch o
      let l ← dictEntries o
      forIn [:l.size] PUnit.unit fun i (_ : PUnit) => (do
          let m ← dictEntries o
          match m[i]? with
            | some e => do
              holding [e.key, e.val] (dictSetHashed d e.key e.hash e.val)
              let now ← dictEpoch o
              if (now != epoch) = true then do
                  (unsupported (toString nm ++ toString ":source-changed-during-callback") : Sem PUnit)
                  pure (ForInStep.yield PUnit.unit)
                else pure (ForInStep.yield PUnit.unit)
            | _ => do (unsupported "internal:dict-merge" : Sem PUnit); pure (ForInStep.yield PUnit.unit) : Sem (ForInStep PUnit))
      pure ()) Q E s := by
    refine wpAny_bind (wpAny_dictEpoch oho ohd (wpAny_bind (wpAny_dictEntries oho ohd (wpAny_bind ?_))))
    rw [Std.Legacy.Range.forIn_eq_forIn_range']; simp only [Std.Legacy.Range.size, Nat.sub_zero, Nat.add_sub_cancel, Nat.div_one]
    refine wpAny_forIn_list _ (fun rest _ t => ∃ h' i, t = { s with heap := h' } ∧ rest = List.range' i (oes.size - i) ∧ i ≤ oes.size ∧ Heap.DictOfH knd h' d (xs ++ ys.take i) ∧ h'.get? o = some oO ∧ Heap.SameBut d s.heap h') _ ?_ ?_ _ _ ⟨s.heap, 0, rfl, by simp, Nat.zero_le _, by rw [List.take_zero, List.append_nil]; exact dd, oho, Heap.SameBut.refl _ _⟩
    · rintro x rest b t ⟨h', i, rfl, hrr, hi, hd', hoo', hs'⟩
      have hlt : i < oes.size := Nat.lt_of_not_le fun z => by rw [Nat.sub_eq_zero_of_le z] at hrr; cases hrr
      rw [show oes.size - i = (oes.size - (i + 1)) + 1 by omega, List.range'_succ] at hrr
      obtain ⟨rfl, hrest⟩ := List.cons.inj hrr
      obtain ⟨y, ey⟩ : ∃ y, ys[x]? = some y := ⟨_, List.getElem?_eq_getElem (by omega)⟩
      obtain ⟨k, a, v⟩ := y
      have ee : oes[x]? = some (entryOfKey knd (k, a, v)) := by rw [← Array.getElem?_toList, ohe, List.getElem?_map, ey]; rfl
      refine wpAny_bind (wpAny_dictEntries hoo' ohd ?_)
      rw [ee]
      have mem := List.mem_of_getElem? ey
      have tk : ys.take (x + 1) = ys.take x ++ [(k, a, v)] := by rw [List.take_add_one, ey]; rfl
      have ndx : ((xs ++ ys.take (x + 1)).map (·.1)).Nodup := by
        refine List.Nodup.sublist ?_ nd
        exact List.Sublist.map _ (List.Sublist.append (List.Sublist.refl _) (List.take_sublist _ _))
      rw [tk, ← List.append_assoc, List.map_append] at ndx
      have nk : k ∉ (xs ++ ys.take x).map (·.1) := fun z => (List.nodup_append.mp ndx).2.2 k z k (by simp) rfl
      have hk' : knd.is h' k a := knd.keeps (ohi _ mem) dho dhd hs'
      refine wpAny_bind (wpAny_holding (setNew_heap hr hk' hd' (by rw [List.length_append, List.length_take]; omega) nk fun h'' hd'' hs'' => ?_))
      have hoo'' : h''.get? o = some oO := (hs''.2 o (Ne.symm hdo)).trans hoo'
      refine wpAny_bind (wpAny_dictEpoch hoo'' ohd ?_)
      rw [if_neg (by simp)]
      exact wpAny_pure ⟨h'', x + 1, rfl, hrest, hlt, by rw [tk, ← List.append_assoc]; exact hd'', hoo'', hs'.trans hs''⟩
    · rintro b t ⟨h', i, rfl, hrr, hi, hd', hoo', hs'⟩
      have hin : i = oes.size := by
        rcases Nat.lt_or_ge i oes.size with h | h
        · rw [show oes.size - i = (oes.size - (i + 1)) + 1 by omega, List.range'_succ] at hrr
          cases hrr
        · omega
      refine wpAny_pure (hQ h' ?_ hs')
      rw [hin, osz, List.take_length] at hd'
      exact hd'
  dsimp only
  split
  · refine wpAny_bind (wpAny_dictEntries dho dhd ?_)
    split
    · rename_i hemp
      have xe : xs = [] := by
        have h0 : des = #[] := Array.isEmpty_iff.mp hemp
        rw [h0] at dhe
        exact List.map_eq_nil_iff.mp dhe.symm
      obtain ⟨y, ye⟩ := few xe
      subst xe
      subst ye
      have eo : oes = #[entryOfKey knd y] := by
        have : oes.toList = [entryOfKey knd y] := ohe
        rw [← Array.toArray_toList (xs := oes), this]
      refine wpAny_bind ?_
      unfold Builtin.Dict.entriesForEmpty
      refine wpAny_bind (wpAny_dictEntries oho ohd ?_)
      subst eo
      have qy := qe y (by simp)
      have fs : ¬ (Array.filter (fun x => x.hash == (entryOfKey knd y).hash) #[entryOfKey knd y]).size > 1 := by
        have := Array.size_filter_le (p := fun x : DictEntry => x.hash == (entryOfKey knd y).hash) (xs := #[entryOfKey knd y])
        simp at this ⊢
      refine wpAny_bind ?_
      rw [← Array.forIn_toList]
      show wpAny (model prog w) A (forIn [entryOfKey knd y] PUnit.unit _) _ E s
      rw [List.forIn_cons]
      refine wpAny_bind ?_
      refine wpAny_bind (qy _ fun q => ?_)
      have nx : ∀ (R : ForInStep PUnit → Shared → Prop), R (.yield PUnit.unit) s → wpAny (model prog w) A (if (!q) = true then (if (Array.filter (fun x => x.hash == (entryOfKey knd y).hash) #[entryOfKey knd y]).size > 1 then (do (unsupported (toString nm ++ toString ":keys-of-equal-hash") : Sem PUnit); pure (ForInStep.yield PUnit.unit)) else pure (ForInStep.yield PUnit.unit)) else pure (ForInStep.yield PUnit.unit)) R E s := fun R hR => by
        cases q
        · rw [if_pos (show (!false) = true from rfl), if_neg fs]
          exact wpAny_pure hR
        · rw [if_neg (by simp)]
          exact wpAny_pure hR
      refine nx _ ?_
      show wpAny (model prog w) A (forIn [] PUnit.unit _) _ E s
      rw [List.forIn_nil]
      refine wpAny_pure (wpAny_pure ?_)
      rw [if_pos (by simp)]
      refine wpAny_bind (wpAny_updateDictKeysTo dho dhd (wpAny_pure (hQ _ ?_ (Heap.SameBut.update ..))) (by show 1 ≤ sizeLine + 1; omega))
      have sb := Heap.SameBut.update s.heap d (Obj.mapDictKeys fun _ => #[entryOfKey knd y])
      refine ⟨_, _, dep + 1, Heap.get?_update_self _ dho (Obj.isFreed_of_dict (Obj.data_mapDictKeys dhd _)), dhx.mapDictKeys _, Obj.data_mapDictKeys dhd _, rfl, fun x hx => ?_, by simp⟩
      exact knd.keeps (ohi x hx) dho dhd sb
    · exact loop
  · exact loop
theorem meetsH_update (knd : HeapKind prog w K) (d o : Addr) (hdo : d ≠ o) (hoS : (o == sysModules) = false) :
    MeetsIn prog w (Builtin.«dict.update» ⟨[.ref d, .ref o], []⟩) (fun A R s => knd.room A.in1 ∧ ∃ xs ys, Heap.DictOfH knd s.heap d xs ∧ Heap.DictOfH knd s.heap o ys ∧ ((xs ++ ys).map (·.1)).Nodup ∧ (xs = [] → ∃ y, ys = [y]) ∧ xs.length + ys.length ≤ sizeLine ∧
      (∀ y ∈ ys, s.TypeIs (.ref y.2.1) "tuple") ∧ ∀ h', Heap.DictOfH knd h' d (xs ++ ys) → Heap.SameBut d s.heap h' → R (.ok (.ret .none)) { s with heap := h' }) := by
  rintro A R s ⟨hr, xs, ys, dd, od, nd, few, hz, ht, h⟩
  obtain ⟨dO, des, dep, dho, dhx, dhd, _⟩ := id dd
  obtain ⟨oO, oes, oep, oho, ohx, ohd, _⟩ := id od
  have td : s.TypeIs (.ref d) "dict" := ⟨dO, dho, dhx.1⟩
  have to : s.TypeIs (.ref o) "dict" := ⟨oO, oho, ohx.1⟩
  unfold Builtin.«dict.update»
  refine wpAny_bind ?_
  unfold Builtin.Dict.selfAndRest
  refine wpAny_bind (wpAny_notOrdered_dict td ?_)
  show wpAny _ _ (pure (d, [Value.ref o])) _ _ s
  refine wpAny_pure ?_
  show wpAny _ _ (Builtin.Dict.updateFrom "dict.update" d (.ref o) [] .none) _ _ s
  unfold Builtin.Dict.updateFrom; refine wpAny_bind (wpAny_typeOf to ?_)
  rw [if_neg (by decide)]
  refine wpAny_bind ?_
  unfold Builtin.Dict.merge; refine wpAny_bind ?_
  unfold Builtin.Dict.readDirectly; refine wpAny_bind (wpAny_isInstance to isSubtype_dict_dict ?_)
  simp only [Bool.not_true, Bool.false_eq_true, if_false]; refine wpAny_bind (wpAny_specialOf to F.slot_dict_iter.lookup (wpAny_pure ?_))
  simp only [beq_self_eq_true, if_true]; refine wpAny_bind (wpAny_pure ?_)
  refine merge_heap hr hdo hoS dd od nd few hz (fun y hy R hR => ?_) fun h' dd' sb => ?_
  · unfold Builtin.Dict.quietEq
    exact wpAny_bind (wpAny_specialOf (ht y hy) PySem.F.slot_tuple_eq.lookup (wpAny_pure (hR _)))
  · show wpAny _ _ (Builtin.Dict.addKeywords d [] >>= _) _ _ _
    exact wpAny_bind (wpAny_pure (wpAny_pure (h h' dd' sb)))
end
section
variable {X : Cx}
theorem paired_app {α β : Type} {R : α → β → Prop} : ∀ {a b : List α} {c d : List β}, Paired R a c → Paired R b d → Paired R (a ++ b) (c ++ d) := by
  intro a b c d p q
  induction p with
  | nil => exact q
  | cons h t ih => exact .cons h ih
theorem kt_keys {H : Hp} {kvs : List (List Key × V)} {xs : List (List Key × Addr × Value)} (r : KT H kvs xs) : kvs.map (·.1) = xs.map (·.1) := by
  induction r with
  | nil => rfl
  | cons h t ih => rw [List.map_cons, List.map_cons, ih, h.1]
theorem kt_tups {H : Hp} {kvs : List (List Key × V)} {xs : List (List Key × Addr × Value)} (r : KT H kvs xs) : ∀ y ∈ xs, ∃ ks : List Key, H y.2.1 = some (.tup (ks.map kV)) := by
  induction r with
  | nil => intro y hy; cases hy
  | cons h t ih =>
    intro y hy
    rcases List.mem_cons.mp hy with e | hy
    · subst e
      exact ⟨_, h.2.1⟩
    · exact ih y hy
def rUpdT : V → List V → Hp → VK → Prop := fun x vs H Q => ∃ (a b : Addr) (kvs mvs : List (List Key × V)), x = .ref a ∧ vs = [.ref b] ∧ H a = some (.dT kvs) ∧ H b = some (.dT mvs) ∧ ((kvs ++ mvs).map (·.1)).Nodup ∧ (kvs = [] → ∃ y, mvs = [y]) ∧ kvs.length + mvs.length ≤ sizeLine ∧ Q .non (upd H a (.dT (kvs ++ mvs)))
theorem mt_updT (hu : X.A.units + 1 < cLine) : MtR X "dict.update" rUpdT := by
  intro pins s σ H x vs v us Q I rx rv h
  obtain ⟨a, b, kvs, mvs, rfl, rfl, ea, eb, nd, few, hz, q⟩ := h
  cases rx
  obtain ⟨u, rfl, ru⟩ := rv.one
  cases ru
  have hab : a ≠ b := fun z => by
    subst z
    rw [ea] at eb
    cases eb
    rcases kvs with _ | ⟨y, l⟩
    · obtain ⟨w, e⟩ := few rfl
      cases e
    · simp at nd
  obtain ⟨_, _, xs, rel, dd⟩ := dt_of I.hok ea
  obtain ⟨_, hoS, ys, rel2, od⟩ := dt_of I.hok eb
  have hd := (dt_of I.hok ea).2.1
  have lx := Paired.length rel
  have ly := Paired.length rel2
  refine call_meetsIn PySem.F.slot_dict_update dd.typeIs PySem.F.entry_dict_update (PySem.F.args_dict_update_2 _ _) (meetsH_update (tupleKind (mixKind X.prog X.w)) a b hab hoS) ⟨tupleKind_room_in1 hu, xs, ys, dd, od, ?_, fun e => ?_, by omega, fun y hy => ?_, fun h' dd' sb => ?_⟩
  · rw [List.map_append, ← kt_keys rel, ← kt_keys rel2, ← List.map_append]
    exact nd
  · subst e
    obtain ⟨y, e⟩ := few (List.length_eq_zero_iff.mp lx)
    rw [e] at ly
    exact List.length_eq_one_iff.mp ly.symm
  · obtain ⟨ks, e⟩ := kt_tups rel2 y hy
    obtain ⟨_, its, _, o, h1, h2, _⟩ := (show ObjOk X.prog X.w H s.heap y.2.1 (.tup (ks.map kV)) from I.hok _ _ e)
    exact ⟨o, h1, h2⟩
  · obtain ⟨o, es, ep, hq, h2, h3, h4, _, h5⟩ := dd'
    refine ⟨.non, upd H a (.dT (kvs ++ mvs)), d_write (ob := .dT (kvs ++ mvs)) I (by rw [ea]; exact True.intro) sb ⟨o, hq⟩ ⟨by rw [List.length_append]; exact hz, hd, _, (show KT H (kvs ++ mvs) (xs ++ ys) from paired_app rel rel2).keeps fun c zs ec => ?_, o, es, ep, hq, h2, h3, h4, h5⟩, rfl, q⟩
    rw [upd_ne (ne_of ec ea (fun z => nomatch z))]
    exact ec
end
end L2
set_option Elab.async false
set_option linter.all false
set_option maxRecDepth 100000
set_option maxHeartbeats 4000000
namespace L2
open PySem PySem.Spec PyProof.Rows
/-! ### defs with defaults: from which nothing leaves, called with the last ones left out, or the last one by its name -/
section
variable {P : Program} {w : World} {K : PySem.W.Frag} {mg : Str → Option Value} {base : Heap}
/-- dvs: the values of the last defaults, left out -/
def FnAtD (P : Program) (w : World) (K : PySem.W.Frag) (mg : Str → Option Value) (base : Heap) (k : Nat) (x : Str) (ps : List Str) (dvs : List V) (sp : Sp) : Prop :=
  ∃ f fd ds, FnOk P w K mg base (CX1 P w) k f fd ps sp ∧ mg x = some (.ref f) ∧ PySem.W.keepIn K (.ref f) = true ∧ Binds K fd ps ds ∧ Vals dvs ds
/-- the last parameter by its name -/
def FnAtK (P : Program) (w : World) (K : PySem.W.Frag) (mg : Str → Option Value) (base : Heap) (k : Nat) (x : Str) (ps : List Str) (kn : Str) (sp : Sp) : Prop :=
  ∃ f fd, FnOk P w K mg base (CX1 P w) k f fd ps sp ∧ mg x = some (.ref f) ∧ PySem.W.keepIn K (.ref f) = true ∧
    ∀ (s : Shared) (us : List Value) (z : Value), K.In s.heap → (us ++ [z]).length = ps.length → BindsTo s fd ⟨us, [(kn, z)]⟩ (ps.zip (us ++ [z]))
end
section
variable {X : Cx} {k : Nat} {x kn : Str} {ps : List Str} {sp : Sp} {dvs : List V} {e ke : Expr} {es : List Expr} {te : TE} {t : TA} {p pos kpos : Pos} {E : St → XK}
def tCallKw (sp : Sp) (E : St → XK) (t : TA) (te : TE) : TE := fun σ H Q => t σ H fun vs H1 => te σ H1 fun z H2 => ∃ z', [z] = [z'] ∧ sp (vs ++ [z']) H2 Q (E σ)
theorem pe_fnKw (F : FnAtK X.prog X.w X.K X.mg X.base k x ps kn sp) (hx : X.ex = []) (R : Rz X E) (hr : Room k X.A) (hg : Gl X x) (ha : PA X (e :: es) t) (hk : PE X ke te) (hdb : (x == ("__debug__" : Str)) = false := by decide)
    (hall : (backToKw pos (keywordEach [⟨some kn, ke, kpos⟩] X.env)).all (·.1.isSome) = true := by rfl) (hks : (backToKw pos (keywordEach [⟨some kn, ke, kpos⟩] X.env)).filterMap (·.1) = [kn] := by rfl)
    (he : starEach (e :: es) X.env = (false, eval e X.env) :: starEach es X.env := by rfl)
    (hpl : ((backTo pos (starEach (e :: es) X.env)).any (·.1) || (backToKw pos (keywordEach [⟨some kn, ke, kpos⟩] X.env)).any (·.1.isNone)) = false := by rfl) :
    PE X (.Call (.Name x p) (e :: es) [⟨some kn, ke, kpos⟩] pos) (tCallKw sp E t te) := by
  obtain ⟨f, fd, G, hm, hkp, hb⟩ := F
  intro pins s σ H Q I h
  refine wpAny_Call_Name_kw (ld_glob I hg hm ?_ hdb)
  refine PySem.W.callWith_KW (h₀ := X.base) I.ok.mod.kin hkp hall (thn (ha pos pins s σ H _ I h) fun us s1 ⟨vs, H1, I1, r, q⟩ => ?_) hpl he
  refine thn ((pk_cons (nm := some kn) (kpos := kpos) hk pk_nil) pos pins s1 σ H1 (fun zs H2 => ∃ z', zs = [z'] ∧ sp (vs ++ [z']) H2 Q (E σ)) I1 q) fun ws s2 ⟨zs, H2, I2, rz, z', ez, q2⟩ => ⟨I2.kIn, ?_⟩
  subst ez
  obtain ⟨z, rfl, rz1⟩ := rz.one
  rw [hks]
  have rv := r.append rz
  have hl : (us ++ [z]).length = ps.length := by rw [← rv.length]; exact G.len _ _ _ _ q2
  refine wpAny_call (codeAny_mono (G.run X.A X.stack s2 H2 ⟨us, [(kn, z)]⟩ (us ++ [z]) (vs ++ [z']) Q (E σ) hr I2.env0 (hb s2 us z I2.kIn hl) rv q2) fun res s' hq => ?_)
  match res, hq with
  | .error ev, hq => exact passes1 hx R I2 hq
  | .ok (.ret u), hq => exact I2.after hq
end
end L2
set_option Elab.async false
set_option linter.all false
set_option maxRecDepth 100000
set_option maxHeartbeats 4000000
namespace L2
open PySem PySem.Spec PyProof.Rows
/-! ### isinstance(x, (t1, t2)) of plain data, texts and None too -/
section
variable {X : Cx} {K : PySem.W.Frag}
end
end L2
set_option Elab.async false
set_option linter.all false
set_option maxRecDepth 100000
set_option maxHeartbeats 4000000
namespace L2
open PySem PySem.Spec PyProof.Rows
/-! ### dicts whose keys are tuples: length, truth, {t: v} -/
section
variable {prog : Program} {w : World} {K : Type} [DecidableEq K] {knd : HeapKind prog w K} {A : Around} {E : Value → Shared → Prop} {s : Shared} {d : Addr} {xs : List (K × Addr × Value)}
theorem typ_heap (hm : s.heap.DictOfH knd d xs) : s.TypeIs (.ref d) "dict" := by
  obtain ⟨o, es, ep, ho, hc, _⟩ := hm
  exact ⟨o, ho, hc.1⟩
theorem size_heap (z : (d == sysModules) = false) : MeetsIn prog w (Builtin.«dict.__len__» ⟨[.ref d], []⟩) (fun _ R s => ∃ xs, s.heap.DictOfH knd d xs ∧ R (.ok (.ret (.int xs.length s.toks))) { s with toks := s.toks + 1 }) :=
  .of_wp fun A R s ⟨xs, hm, h⟩ => by
    obtain ⟨o, es, ep, ho, _, hdat, he, _⟩ := hm
    show wpAny _ _ (dictSize d >>= _) _ _ s
    unfold dictSize
    exact wpAny_bind (wpAny_bind (wpAny_dictEntries ho hdat (wpAny_pure (wpAny_bind (wpAny_pendingCount_other z (wpAny_ret_mkInt (by
      have e : es.size = xs.length := by rw [← Array.length_toList, he, List.length_map]
      rw [Nat.add_zero, e]; exact h)))))))
theorem lenB_heap {Q : Value → Shared → Prop} (z : (d == sysModules) = false) (hm : s.heap.DictOfH knd d xs) (hf : xs.length ≤ sizeLine)
    (h : Q (.int xs.length (s.toks + 1)) { s with toks := s.toks + 1 + 1 }) : wpAny (model prog w) A (Builtin.«len» ⟨[.ref d], []⟩) (fun r s' => ∃ v, r = .done (.ret v) ∧ Q v s') E s := by
  have hl := line63
  unfold Builtin.«len»
  refine wpAny_bind (m := oneArg "len" _) (wpAny_pure (wpAny_bind (m := callSpecial? (.ref d) (Str.ofString "__len__")) (wpAny_callSpecial?_slot (name := Str.ofString "__len__") (typ_heap hm) F.slot_dict_len (call_meetsIn F.slot_dict_len (typ_heap hm) F.entry_dict_len (F.args_dict_len_1 _) (size_heap (knd := knd) z) ⟨xs, hm, ?_⟩))))
  show wpAny _ _ _ _ _ { s with toks := s.toks + 1 }
  refine wpAny_bind (wpAny_holding (wpAny_pure (wpAny_bind (wpAny_letGo ?_))))
  show wpAny _ _ (if ((xs.length : Nat) : Int) < 0 then _ else _) _ _ _
  rw [if_neg (show ¬ ((xs.length : Nat) : Int) < 0 by omega)]
  show wpAny _ _ (if ((xs.length : Nat) : Int) ≥ 2 ^ 63 then _ else _) _ _ _
  rw [if_neg (show ¬ ((xs.length : Nat) : Int) ≥ 2 ^ 63 by omega)]
  exact wpAny_bind (wpAny_mkInt (wpAny_pure ⟨_, rfl, h⟩))
theorem truth_heap {Q : Bool → Shared → Prop} (z : (d == sysModules) = false) (hm : s.heap.DictOfH knd d xs) (hf : xs.length ≤ sizeLine) (h : Q (!xs.isEmpty) { s with toks := s.toks + 1 + 1 }) : wpAny (model prog w) A (truthy (.ref d)) Q E s := by
  have e0 : ((xs.length : Int) != 0) = !xs.isEmpty := by cases xs <;> simp <;> omega
  have run : wpAny (model prog w) A (runValue (.builtin "len" ⟨[.ref d], []⟩)) (fun r s' => r = .int xs.length (s.toks + 1) ∧ Q (!xs.isEmpty) s') E s := by
    refine wpAny_runValue (codeAny_builtin entry_len ?_)
    rw [Around.under_plainId plain_len _]
    refine wpAny_mono (lenB_heap (Q := fun r s' => r = .int xs.length (s.toks + 1) ∧ Q (!xs.isEmpty) s') z hm hf ⟨rfl, h⟩) (fun fin s' q => ?_) fun _ _ e => e
    obtain ⟨r, rfl, q⟩ := q
    exact q
  have fin : ∀ (r : Value) (s' : Shared), (r = .int xs.length (s.toks + 1) ∧ Q (!xs.isEmpty) s') → ∃ n t, r = .int n t ∧ Q (n != 0) s' := fun r s' ⟨a, b⟩ => ⟨_, _, a, by rw [e0]; exact b⟩
  unfold truthy
  first
    | refine wpAny_bind (wpAny_callSpecial?_none (name := Str.ofString "__bool__") (typ_heap hm) noBool_dict ?_)
    | refine wpAny_bind (wpAny_pure (wpAny_bind (wpAny_callSpecial?_none (name := Str.ofString "__bool__") (typ_heap hm) noBool_dict ?_)))
  first
    | refine wpAny_bind (wpAny_specialOf (name := Str.ofString "__len__") (typ_heap hm) F.slot_dict_len.lookup ?_)
    | refine wpAny_bind (wpAny_pure (wpAny_bind (wpAny_specialOf (name := Str.ofString "__len__") (typ_heap hm) F.slot_dict_len.lookup ?_)))
  first
    | exact wpAny_bind (wpAny_mono run (fun r s' q => by obtain ⟨n, t, rfl, q2⟩ := fin r s' q; exact wpAny_pure q2) fun _ _ e => e)
    | exact wpAny_bind (wpAny_pure (wpAny_bind (wpAny_mono run (fun r s' q => by obtain ⟨n, t, rfl, q2⟩ := fin r s' q; exact wpAny_pure q2) fun _ _ e => e)))
/-- one pair: {t: v} -/
theorem sub_heap {k v : Sem Value} {Q : Addr → Shared → Prop} (hr : knd.room A)
    (h : wpAny (model prog w) A k (fun kv s₁ => wpAny (model prog w) A v (fun vv s₂ => ∃ (kk : K) (a : Addr), kv = .ref a ∧ knd.is s₂.heap kk a ∧ s₂.heap.DictOfH knd s.heap.objs.size [] ∧
      ∀ h', h'.DictOfH knd s.heap.objs.size [(kk, a, vv)] → Heap.SameBut s.heap.objs.size s₂.heap h' → ∀ t', Q s.heap.objs.size { s₂ with heap := h', toks := t' }) E s₁) E { s with heap := s.heap.push { cls := .type "dict", data := .dict #[] } }) :
    wpAny (model prog w) A (subDict [(k, v)]) Q E s := by
  unfold subDict
  refine wpAny_bind (wpAny_alloc (wpAny_bind (wpAny_holding ?_)))
  rw [if_pos (show [(k, v)].length ≤ 15 by simp)]
  refine wpAny_bind (evalPairs_cons (wpAny_mono h (fun kv s₁ h₁ => wpAny_mono h₁ (fun vv s₂ h₂ => evalPairs_nil ?_) fun _ _ e => e) fun _ _ e => e))
  obtain ⟨kk, a, rfl, hk, dd, q⟩ := h₂
  refine wpAny_holding ?_
  rw [List.forIn_cons]
  refine wpAny_bind (wpAny_bind (wpAny_bind (wpAny_dictSet_heap (knd := knd) (xs := []) (hsz := Nat.zero_le _) hr hk dd fun h' d' sb => wpAny_pure ?_)))
  dsimp only
  rw [List.forIn_nil]
  exact wpAny_pure (wpAny_pure (wpAny_pure (q h' d' sb _)))
end
section
variable {X : Cx} {pos : Pos} {k v a : Expr} {tk tv ta : TE}
theorem paired_one {kvs : List (List Key × V)} {H : Hp} {ys : List (List Key × Addr × Value)} (r : KT H kvs ys) : ys.isEmpty = kvs.isEmpty ∧ ys.length = kvs.length := by
  have e : ys.length = kvs.length := (Paired.length r).symm
  refine ⟨?_, e⟩
  cases kvs <;> cases ys <;> simp at e ⊢
/-- len of such a dict -/
theorem call_lenT : CallR X (.builtin "len") (fun xs H Q => ∃ a kvs, xs = [V.ref a] ∧ H a = some (.dT kvs) ∧ Q (.int kvs.length) H) := by
  intro pins s σ H xs us Q I r h
  obtain ⟨a, kvs, rfl, ha, q⟩ := h
  obtain ⟨u, rfl, ru⟩ := vals1 r
  cases ru
  obtain ⟨z, hd, ys, rel, dd⟩ := dt_of I.hok ha
  have e := (paired_one rel).2
  refine Calls.call_function_entry kind_len plain_len entry_len (args_len1 _) (lenB_heap hd dd (by rw [e]; exact z) ?_)
  rw [e]
  exact ⟨.int kvs.length, H, I.tok _, ⟨_, rfl⟩, q⟩
/-- the truth of such a dict -/
def tTruT (ta : TE) : TT := fun σ H Q => ta σ H fun x H' => ∃ a kvs, x = V.ref a ∧ H' a = some (.dT kvs) ∧ Q (!kvs.isEmpty) H'
theorem pt_truT (ha : PE X a ta) (he : ∀ whole, isTrue a X.env whole = (do let v ← whole; standAt a.pos; holding [v] (truthy v)) := by intro _; rfl) : PT X a (tTruT ta) := by
  intro pins s σ H Q I h
  refine isTrue_plain (thn (ha pins s σ H _ I h) fun v s1 ⟨x, H1, I1, r1, q1⟩ => ?_) (he _)
  obtain ⟨d, kvs, rfl, hd, q⟩ := q1
  cases r1
  obtain ⟨z, hs, ys, rel, dd⟩ := dt_of I1.hok hd
  obtain ⟨e1, e2⟩ := paired_one rel
  refine truth_heap hs dd (by rw [e2]; exact z) ?_
  rw [e1]
  exact ⟨H1, I1.tok _, q⟩
def tDisp1 (tk tv : TE) : TE := fun σ H Q => ∀ p, H p = none → tk σ (upd H p (.dT [])) fun x H1 => tv σ H1 fun y H2 => ∃ (t : Addr) (ks : List Key), x = .ref t ∧ H2 t = some (.tup (ks.map kV)) ∧ H2 p = some (.dT []) ∧ Q (.ref p) (upd H2 p (.dT [(ks, y)]))
theorem pe_disp1 (hu : X.A.units < cLine) (hk : PE X k tk) (hv : PE X v tv) : PE X (.Dict [some k] [v] pos) (tDisp1 tk tv) := by
  intro pins s σ H Q I q
  have hn := I.hok.fresh (Nat.le_refl s.heap.objs.size)
  have I1 := I.laid (a := s.heap.objs.size) (o := .dT []) (h' := s.heap.push { cls := .type "dict", data := .dict #[] }) (t' := s.toks) (fun _ _ q => Heap.get?_push_of_some _ q) (Nat.le_refl _) (dt_empty s.heap I.big)
  have hs : (evalEachOpt [some k] X.env).zip ((evalEach [v] X.env).map fun v => do let x ← v; standAt pos; pure x) = [((eval k X.env), (do let x ← eval v X.env; standAt pos; pure x))].map fun p => (some p.1, p.2) := rfl
  rw [arm_eval_Dict, hs, dictDisplay_pairs _ (by simp) (by simp)]
  refine wpAny_bind (wpAny_standAt (wpAny_bind (sub_heap (knd := tupleKind (mixKind X.prog X.w)) (show (tupleKind (mixKind X.prog X.w)).room X.A from hu) (thn (hk pins _ σ _ _ I1 (q _ hn)) fun kv s1 ⟨x, H1, I2, r1, q1⟩ => wpAny_bind (thn (hv pins s1 σ H1 _ I2 q1) fun vv s2 ⟨y, H2, I3, r2, t, ks, e, ht, hp, q2⟩ => wpAny_bind (wpAny_standAt (wpAny_pure ?_)))))))
  subst e
  cases r1
  obtain ⟨z, hd, xs, rel, dd⟩ := dt_of I3.hok hp
  cases rel
  refine ⟨ks, t, rfl, key_of I3.hok ht, dd, fun h' d' sb t' => wpAny_pure ⟨.ref s.heap.objs.size, _, ?_, rfl, q2⟩⟩
  obtain ⟨o, es, ep, hq, h2, h3, h4, _, h5⟩ := d'
  refine d_write I3 (by rw [hp]; exact True.intro) sb ⟨o, hq⟩ ⟨by show 1 ≤ sizeLine; decide, hd, _, ?_, o, es, ep, hq, h2, h3, h4, h5⟩
  refine .cons ⟨rfl, ?_, r2⟩ .nil
  show upd H2 s.heap.objs.size (.dT [(ks, y)]) t = _
  rw [upd_ne (ne_of ht hp (fun z => nomatch z))]
  exact ht
/-- t + u of tuples, any -/
def rCatA (K : PySem.W.Frag) : R2 := fun x y H Q => ∃ a b xs ys, x = .ref a ∧ y = .ref b ∧ SqT K H a xs ∧ SqT K H b ys ∧ xs.length + ys.length ≤ sizeLine ∧
  (xs = [] → Q (.ref b) H) ∧ (xs ≠ [] → ys = [] → Q (.ref a) H) ∧ (xs ≠ [] → ys ≠ [] → ∀ p, H p = none → Q (.ref p) (upd H p (.tup (xs ++ ys))))
theorem op_catA {K : PySem.W.Frag} (hK : X.K = K) : OpR X (binaryOp .Add) (rCatA K) := by
  subst hK
  intro pins s σ H x y v u Q I rx ry h
  obtain ⟨a, b, xs, ys, rfl, rfl, ha, hb, hz, q0, q1, q2⟩ := h
  by_cases hx : xs = []
  · cases rx
    cases ry
    obtain ⟨its, r1, p1, _⟩ := I.tuple ha
    obtain ⟨its2, r2, p2, _⟩ := I.tuple hb
    have hv : its = [] := r1.nil_iff.mpr hx
    obtain ⟨⟨c1, d1, dat1, sl1⟩, ho, hc, n, hd⟩ := id p1
    obtain ⟨⟨c2, d2, dat2, sl2⟩, ho2, hc2, n2, hd2⟩ := id p2
    simp only at hc hd hc2 hd2
    subst hc hd hc2 hd2
    exact concat_meets ⟨_, ho, rfl⟩ ⟨_, ho2, rfl⟩ noFill_tuple_add seq_tuple_add F.slot_tuple_add F.entry_tuple_add (F.args_tuple_add_2 _ _) (tuple_addW0 a b its.toArray its2.toArray n n2 d1 d2 sl1 sl2 (by simp [hv])) ⟨ho, ho2, .ref b, H, I, rfl, q0 hx⟩
  · exact op_catT pins s σ H _ _ v u Q I rx ry ⟨a, b, xs, ys, rfl, rfl, ha, hb, hx, hz, q1 hx, q2 hx⟩
end
end L2
namespace L2
open PySem PySem.Spec PyProof.Rows
section
variable {d : Addr} {o : Obj} {kvs : List (List Key × V)} {g : TG} {tb : TS} {D : Ends} {σ : St} {H : Hp}
/-- for k in d, the keys tuples -/
theorem for_dT (Pv : Nat → St → Hp → Prop) (h0 : Pv 0 σ H) (hl : ∀ i σ H, i ≤ kvs.length → Pv i σ H → H d = some (.frz o (.dT kvs)))
    (hs : ∀ i k v b σ H, kvs[i]? = some (k, v) → H b = some (.tup (k.map kV)) → Pv i σ H → g (.ref b) σ H fun σ2 H2 => tb { D with nx := Pv (i + 1), ct := Pv (i + 1), bk := D.nx } σ2 H2) (hd : ∀ σ H, Pv kvs.length σ H → D.nx σ H) :
    ∃ W : Nat → Nat → St → Hp → Prop, (∃ m, W 0 m σ H) ∧ ∀ i m σ H, W i m σ H →
      ((ItdT d o kvs).stop i H ∧ D.nx σ H) ∨ ((ItdT d o kvs).go i H ∧ ∃ N : St → Hp → Prop, (∀ σ' H', N σ' H' → ∃ m', m' < m ∧ W (i + 1) m' σ' H') ∧ ∀ x H', (ItdT d o kvs).yld i H x H' → g x σ H' fun σ2 H2 => tb { D with nx := N, ct := N, bk := D.nx } σ2 H2) := by
  refine ⟨fun i m σ H => m = kvs.length - i ∧ i ≤ kvs.length ∧ Pv i σ H, ⟨kvs.length, by simp, Nat.zero_le _, h0⟩, ?_⟩
  rintro i m σ H ⟨rfl, hi, p⟩
  have q := hl i σ H hi p
  by_cases hlt : i < kvs.length
  · refine .inr ⟨⟨hlt, q⟩, Pv (i + 1), fun σ' H' p' => ⟨kvs.length - (i + 1), by omega, rfl, hlt, p'⟩, fun x H' y => ?_⟩
    obtain ⟨rfl, k, v, b, e, rfl, hb⟩ := y
    exact hs i k v b σ _ e hb p
  · have e : i = kvs.length := by omega
    subst e
    exact .inl ⟨⟨Nat.le_refl _, q⟩, hd σ H p⟩
end
end L2
namespace L2
open PySem PySem.Spec PyProof.Rows
section
variable {X : Cx}
end
end L2
set_option Elab.async false
set_option linter.all false
set_option maxRecDepth 100000
set_option maxHeartbeats 4000000
namespace L2
open PySem PySem.Spec PyProof.Rows
/-! ### dict(pairs): a list of pairs whose keys are tuples -/
theorem keys_no_list : typeLookup (.type "list") "keys" = pure none := by rw [typeLookup_type, builtinLookup_eq_fast]; kernel_rfl
theorem entry_dict_loop : entryFor table "dict.update.loop" = some Builtin.«dict.update.loop» := entryFor_of_tree (by kernel_rfl)
theorem plain_dict_loop : plainId "dict.update.loop" = true := by decide +kernel
section
variable {prog : Program} {w : World} {A : Around} {E : Value → Shared → Prop} {s : Shared}
/-- a list has no attribute of this name -/
theorem ask_keys {a : Addr} {o : Obj} {xs : Array Value} {k : Nat} {Q : Option Value → Shared → Prop} (hx : s.heap.get? a = some o) (hc : o.cls = .type "list") (hdat : o.data = .seq xs k) (hd : o.dict = none) (hA : A.handled = none)
    (h : ∀ h' tk e, Heap.NewExcOf s.heap h' e "AttributeError" → Q none { s with heap := h', toks := tk }) : wpAny (model prog w) A (getAttr? (.ref a) "keys") Q E s := by
  obtain ⟨c, dct, dat, sl⟩ := o
  simp only at hc hdat hd
  subst hc hdat hd
  obtain ⟨hp, g, d, tk, os⟩ := s
  have hT : ∀ tk', (⟨hp, g, d, tk', os⟩ : Shared).TypeIs (.ref a) "list" := fun _ => ⟨_, hx, rfl⟩
  have f1 := sub_AttributeError
  have f3 := F.slot_list_getattribute.lookup
  have f4 := F.slot_list_getattribute.bind (.ref a)
  have f5 := am_list_getattr_none
  unfold getAttr? getAttrBy? getAttrBy
  repeat (any_goals (first | assumption | exact hT _ | ((with_reducible show wpAny _ _ (call (Value.builtin "list.__getattribute__") _ _) _ _ _); refine call_meets F.slot_list_getattribute (hT _) am_entry_list_getattribute (F.args_list_getattribute_2 _ _) (meets_getattribute_miss_list a xs k sl _ _ keys_no_list (by decide) (by size_fits)) ⟨hx, hA, fun h' tk' e hx' => ?_⟩) | wp_step))
  obtain ⟨t', u', he⟩ := hx'.there
  show wpAny _ _ (getattributeRaised _ _ _ _ _ _ _) _ _ _
  unfold getattributeRaised
  repeat (any_goals (first | assumption | wp_step))
  exact h _ _ _ hx'.of
/-- what is put in, pair by pair -/
def putP (kvs : List (List Key × V)) (ps : List (List Key × V)) : List (List Key × V) := ps.foldl (fun l p => putK l p.1 p.2) kvs
theorem putP_len (kvs ps : List (List Key × V)) : (putP kvs ps).length ≤ kvs.length + ps.length := by
  induction ps generalizing kvs with
  | nil => exact Nat.le_refl _
  | cons p ps ih =>
    have h1 := ih (putK kvs p.1 p.2)
    have h2 := length_putK kvs p.1 p.2
    show (putP (putK kvs p.1 p.2) ps).length ≤ _
    rw [List.length_cons]
    omega
theorem putP_take {ps : List (List Key × V)} {i : Nat} {p : List Key × V} (h : ps[i]? = some p) : putP [] (ps.take (i + 1)) = putK (putP [] (ps.take i)) p.1 p.2 := by
  rw [List.take_add_one, h]
  unfold putP
  rw [List.foldl_append]
  rfl
/-- the pairs at this list's places -/
def PairsAt (H : Hp) (vs : List V) (ps : List (List Key × V)) : Prop := vs.length = ps.length ∧ ∀ (i : Nat) v p, vs[i]? = some v → ps[i]? = some p → ∃ t a, v = .ref t ∧ H t = some (.tup [.ref a, p.2]) ∧ H a = some (.tup (p.1.map kV))
theorem kt_mem {H : Hp} {kvs : List (List Key × V)} {xs : List (List Key × Addr × Value)} (r : KT H kvs xs) {x : List Key × Addr × Value} (hx : x ∈ xs) : H x.2.1 = some (.tup (x.1.map kV)) := by
  induction r with
  | nil => cases hx
  | @cons p q ps qs h t ih =>
    rcases List.mem_cons.mp hx with rfl | hx
    · rw [← h.1]; exact h.2.1
    · exact ih hx
theorem pair_loop {H : Hp} {h0 : Heap} {d it p : Addr} {vs : List V} {its : List Value} {ps : List (List Key × V)} {R : Result → Shared → Prop} (hu : A.in1.units < cLine)
    (W : Walks prog w A.in1 it [it, p] [it] its.length (fun i v => its[i]? = some v) (fun i h => h.IsListIter it p i ∧ h.IsList p its.toArray))
    (ok : HOk prog w H h0) (rv : Vals vs its) (pa : PairsAt H vs ps) (hd : h0.get? d = none) (hi0 : h0.get? it = none) (hp : ∃ o, h0.get? p = some o) (ndi : d ≠ it) (hz : ps.length ≤ sizeLine) :
    ∀ (m i : Nat) (s : Shared) (xs : List (List Key × Addr × Value)), its.length - i = m → i ≤ its.length → (s.heap.IsListIter it p i ∧ s.heap.IsList p its.toArray) → (∀ b o, h0.get? b = some o → s.heap.get? b = some o) →
      s.heap.DictOfH (tupleKind (mixKind prog w)) d xs → KT H (putP [] (ps.take i)) xs →
      (∀ h' tk xs', (∀ b o, h0.get? b = some o → h'.get? b = some o) → h'.DictOfH (tupleKind (mixKind prog w)) d xs' → KT H (putP [] ps) xs' → R (.ok (.ret .none)) { s with heap := h', toks := tk }) →
      codeAny (model prog w) A (.builtin "dict.update.loop" ⟨[.ref d, .ref it, rawInt i, .none], []⟩) R s := by
  have lens : its.length = ps.length := by rw [← rv.length]; exact pa.1
  have dp : d ≠ p := fun z => by obtain ⟨o, ho⟩ := hp; rw [← z, hd] at ho; cases ho
  have moved : ∀ {h h' : Heap} {xs : List (List Key × Addr × Value)} {kvs : List (List Key × V)}, (∀ b o, b ≠ it → h.get? b = some o → h'.get? b = some o) → (∀ b o, h0.get? b = some o → h.get? b = some o) → h.DictOfH (tupleKind (mixKind prog w)) d xs → KT H kvs xs →
      (∀ b o, h0.get? b = some o → h'.get? b = some o) ∧ h'.DictOfH (tupleKind (mixKind prog w)) d xs := fun {h h' xs kvs} k k0 dd kt => by
    have k1 : ∀ b o, h0.get? b = some o → h'.get? b = some o := fun b o e => k b o (fun z => by rw [z, hi0] at e; cases e) (k0 b o e)
    refine ⟨k1, ?_⟩
    obtain ⟨o, es, ep, h1, h2, h3, h4, h5, h6⟩ := dd
    have ok' := ok.kept k1
    refine ⟨o, es, ep, k d o ndi h1, h2, h3, h4, fun x hx => ?_, h6⟩
    exact key_of ok' (kt_mem kt hx)
  intro m
  induction m with
  | zero =>
    intro i s xs hm hi st k0 dd kt hR
    have hin : i = its.length := by omega
    subst hin
    refine codeAny_builtin entry_dict_loop ?_
    rw [Around.under_plainId plain_dict_loop _]
    show wpAny _ A.in1 (pyNext (.ref it) >>= _) _ _ s
    refine wpAny_bind (W.done s _ _ st fun h' tk k => ?_)
    obtain ⟨k1, d1⟩ := moved (h := s.heap) (h' := h') (fun b o nb e => k b o (by simpa using nb) e) k0 dd kt
    show wpAny _ A.in1 (ret Value.none) _ _ _
    rw [lens, List.take_length] at kt
    exact wpAny_pure (hR h' tk xs k1 d1 kt)
  | succ m ih =>
    intro i s xs hm hi st k0 dd kt hR
    have hlt : i < its.length := by omega
    refine codeAny_builtin entry_dict_loop ?_
    rw [Around.under_plainId plain_dict_loop _]
    show wpAny _ A.in1 (pyNext (.ref it) >>= _) _ _ s
    refine wpAny_bind (W.item i s _ _ hlt st fun v h1 tk hP st1 k => ?_)
    obtain ⟨k1, d1⟩ := moved (h := s.heap) (h' := h1) (fun b o nb e => k b o (by simpa using nb) e) k0 dd kt
    have hv1 : i < vs.length := by rw [rv.length]; exact hlt
    have hp1 : i < ps.length := by omega
    obtain ⟨t, a, ev, ht, ha⟩ := pa.2 i vs[i] ps[i] (by simp [hv1]) (by simp [hp1])
    obtain ⟨u, eu, rvi⟩ := rv.get (i := i) (x := .ref t) (by rw [← ev]; simp [hv1])
    rw [hP] at eu
    cases eu
    cases rvi
    have ok1 := ok.kept k1
    obtain ⟨_, its2, r2, o2, ho2, hc2, n2, hd2⟩ := ok1 _ _ ht
    obtain ⟨u1, u2, rfl, ra, ry⟩ := vals2 r2
    cases ra
    show wpAny _ A.in1 (holding [Value.ref t] _ >>= _) _ _ _
    refine wpAny_bind (wpAny_holding ?_)
    refine wpAny_bind (wpAny_tryCatch ?_)
    unfold Builtin.Dict.pairItems
    refine wpAny_bind (wpAny_typeOf (T := "tuple") ⟨o2, ho2, hc2⟩ ?_)
    rw [if_pos (by decide)]
    refine wpAny_bind (wpAny_seqItems ho2 hd2 (wpAny_pure ?_))
    show wpAny _ A.in1 (holding [Value.ref a, u2] (dictSet d (.ref a) u2)) _ _ _
    refine wpAny_holding ?_
    have lz : xs.length ≤ sizeLine := by
      have e1 := Paired.length kt
      have e2 := putP_len [] (ps.take i)
      rw [List.length_take, List.length_nil] at e2
      omega
    refine wpAny_dictSet_heap (knd := tupleKind (mixKind prog w)) (xs := xs) (hsz := lz) hu (key_of ok1 ha) d1 fun h2 d2 sb => ?_
    have k2 : ∀ b o, h0.get? b = some o → h2.get? b = some o := fun b o e => (sb.2 b (fun z => by rw [z, hd] at e; cases e)).trans (k1 b o e)
    refine wpAny_pure ⟨plainId_quiet plain_dict_loop _, ?_⟩
    refine ih (i + 1) _ _ (by omega) (by omega) (W.frame _ _ _ st1 fun b hb o e => ?_) k2 d2 ?_ fun h' tk' xs' k' d' kt' => hR h' tk' xs' k' d' kt'
    · have : b ≠ d := fun z => by
        subst z
        rcases List.mem_cons.mp hb with rfl | hb
        · exact ndi rfl
        · exact dp (by simpa using hb)
      exact (sb.2 b this).trans e
    · rw [putP_take (p := ps[i]) (by simp [hp1])]
      exact kt.put ps[i].1 ha ry
theorem none_past {h : Heap} {a : Addr} (l : h.objs.size ≤ a) : h.get? a = none := by
  cases e : h.get? a with
  | none => rfl
  | some q => exact absurd (Heap.lt_size e) (Nat.not_lt.mpr l)
theorem call_pairs {H : Hp} {p : Addr} {vs : List V} {its : List Value} {ps : List (List Key × V)} {Q : Value → Shared → Prop} (hh : A.handled = none) (hu : A.in1.in1.units < cLine) (pl : PlainL s.heap p its.toArray)
    (ok : HOk prog w H s.heap) (rv : Vals vs its) (pa : PairsAt H vs ps) (hz : ps.length ≤ sizeLine)
    (h : ∀ h' tk xs, (∀ b o, s.heap.get? b = some o → h'.get? b = some o) → h'.DictOfH (tupleKind (mixKind prog w)) s.heap.objs.size xs → KT H (putP [] ps) xs → Q (.ref s.heap.objs.size) { s with heap := h', toks := tk }) :
    wpAny (model prog w) A (call (.type "dict") [.ref p]) Q E s := by
  refine callType_codes (Q₁ := fun obj s₁ => obj = .ref s.heap.objs.size ∧ s₁ = { s with heap := s.heap.push { cls := .type "dict", data := .dict #[] } }) F.kt_called_dict (F.kt_typeCall_dict_1 _) F.entry_dict_init (kt_code_dict_new _ ⟨rfl, rfl⟩) ?_
  rintro obj s₁ ⟨rfl, rfl⟩
  have hnew : (s.heap.push { cls := .type "dict", data := .dict #[] }).DictOfH (tupleKind (mixKind prog w)) s.heap.objs.size [] := ⟨_, _, _, Heap.get?_push_size _ rfl, ⟨rfl, rfl, rfl⟩, rfl, rfl, fun x hx => (by cases hx), by simp⟩
  have hT : Shared.TypeIs { s with heap := s.heap.push { cls := .type "dict", data := .dict #[] } } (.ref s.heap.objs.size) "dict" := ⟨_, Heap.get?_push_size _ rfl, rfl⟩
  refine ⟨hT, F.args_dict_init_2 _ _, ?_⟩
  obtain ⟨o, n, ho, hc, hd, hs⟩ := id pl
  have ho1 : (s.heap.push { cls := .type "dict", data := .dict #[] }).get? p = some o := Heap.get?_push_of_some _ ho
  unfold Builtin.«dict.__init__»
  refine wpAny_bind ?_
  unfold Builtin.Dict.selfAndRest
  refine wpAny_bind (wpAny_notOrdered_dict hT ?_)
  show wpAny _ _ (pure (s.heap.objs.size, [Value.ref p])) _ _ _
  refine wpAny_pure ?_
  show wpAny _ _ (Builtin.Dict.updateFrom "dict.__init__" s.heap.objs.size (.ref p) [] .none) _ _ _
  unfold Builtin.Dict.updateFrom
  refine wpAny_bind (wpAny_typeOf (T := "list") ⟨o, ho1, hc⟩ ?_)
  rw [if_pos (by decide)]
  refine wpAny_bind (ask_keys (s := { s with heap := s.heap.push { cls := .type "dict", data := .dict #[] } }) ho1 hc hs hd (show A.in1.in1.handled = none from hh) fun h1 tk e ne => ?_)
  have k1 : ∀ b q, s.heap.get? b = some q → h1.get? b = some q := fun b q eb => ne.keeps b q (Heap.get?_push_of_some _ eb)
  have hp1 : h1.get? p = some o := k1 p o ho
  have hd1 : h1.DictOfH (tupleKind (mixKind prog w)) s.heap.objs.size [] := by
    obtain ⟨q, es, ep, q1, q2⟩ := hnew
    refine ⟨q, es, ep, ne.keeps _ _ q1, q2.1, q2.2.1, q2.2.2.1, fun x hx => (by cases hx), q2.2.2.2.2⟩
  rw [if_pos (show (none : Option Value).isNone = true from rfl)]
  refine wpAny_bind (wpAny_rule ?_)
  have pl1 : h1.IsList p its.toArray := ⟨o, hp1, hc, n, hs⟩
  refine wpAny_bind (wpAny_pyIter_list (s := { s with heap := h1, toks := tk }) pl1 ?_)
  refine wpAny_pure ⟨plainId_quiet plain_dict_loop _, ?_⟩
  have lts : s.heap.objs.size < h1.objs.size := by obtain ⟨q, _, _, q1, _⟩ := hd1; exact Heap.lt_size q1
  have ltp : p < h1.objs.size := Heap.lt_size hp1
  refine pair_loop (A := A.in1) (H := H) (h0 := s.heap) (d := s.heap.objs.size) (it := h1.objs.size) (p := p) hu (walks_list (show A.in1.in1.handled = none from hh) h1.objs.size p (fun z => by rw [z] at ltp; exact Nat.lt_irrefl _ ltp) its) ok rv pa ?_ ?_ ⟨o, ho⟩ (Nat.ne_of_lt lts) hz its.length 0 _ [] (by omega) (Nat.zero_le _) ⟨⟨_, Heap.get?_push_size _ rfl, rfl, rfl⟩, o, Heap.get?_push_of_some _ hp1, hc, n, hs⟩ (fun b q eb => Heap.get?_push_of_some _ (k1 b q eb)) ?_ .nil ?_
  · exact none_past (Nat.le_refl _)
  · exact none_past (Nat.le_of_lt lts)
  · obtain ⟨q, es, ep, q1, q2, q3, q4, _, q6⟩ := hd1
    exact ⟨q, es, ep, Heap.get?_push_of_some _ q1, q2, q3, q4, fun x hx => (by cases hx), q6⟩
  · exact fun h' tk' xs k' d' kt' => ⟨rfl, h h' tk' xs k' d' kt'⟩
end
section
variable {X : Cx}
def rDictP (K : PySem.W.Frag) : List V → Hp → VK → Prop := fun xs H Q => ∃ (p : Addr) (vs : List V) (ps : List (List Key × V)), xs = [.ref p] ∧ SqL K H p vs ∧ PairsAt H vs ps ∧ ∀ q, H q = none → Q (.ref q) (upd H q (.dT (putP [] ps)))
theorem call_dictPK {K : PySem.W.Frag} (hK : X.K = K) (hc : X.calm = true) (hu : X.A.in1.units + 64 < cLine) : CallR X (.type "dict") (rDictP K) := by
  subst hK
  intro pins s σ H xs us Q I r h
  obtain ⟨p, vs, ps, rfl, hq, pa, q⟩ := h
  obtain ⟨u, rfl, rx⟩ := vals1 r
  cases rx
  obtain ⟨its, rv, pl, hz⟩ := I.list hq
  have z : ps.length ≤ sizeLine := by rw [← pa.1]; exact hz
  refine call_pairs (H := H) (I.ok.hd hc) (Nat.lt_of_le_of_lt (show X.A.in1.in1.units ≤ X.A.in1.units + 64 by show X.A.in1.units + 1 ≤ _; omega) hu) pl I.hok rv pa z fun h' tk xs k dd kt => ?_
  have hn := I.hok.fresh (Nat.le_refl s.heap.objs.size)
  have lp := putP_len [] ps
  refine ⟨.ref s.heap.objs.size, _, I.laid (a := s.heap.objs.size) (o := .dT (putP [] ps)) k (Nat.le_refl _) ?_, rfl, q _ hn⟩
  obtain ⟨o, es, ep, q1, q2, q3, q4, _, q6⟩ := dd
  refine ⟨by rw [List.length_nil] at lp; omega, ?_, xs, kt.keeps fun b ys e => ?_, o, es, ep, q1, q2, q3, q4, q6⟩
  · have := I.big
    simp only [beq_eq_false_iff_ne, ne_eq]
    intro z
    rw [z] at this
    exact Nat.lt_irrefl _ this
  · rw [upd_ne (ne_of_none e hn)]
    exact e
variable {pos : Pos} {k v : Expr} {tk tv : TE}
/-- {k: v}, the key a number or a text -/
def tDispK (tk tv : TE) : TE := fun σ H Q => ∀ p, H p = none → tk σ (upd H p (.dK [])) fun x H1 => tv σ H1 fun y H2 => ∃ c, x = kV c ∧ H2 p = some (.dK []) ∧ Q (.ref p) (upd H2 p (.dK [(c, y)]))
theorem pe_dispK (hk : PE X k tk) (hv : PE X v tv) : PE X (.Dict [some k] [v] pos) (tDispK tk tv) := by
  intro pins s σ H Q I q
  have hn := I.hok.fresh (Nat.le_refl s.heap.objs.size)
  have I1 := I.laid (a := s.heap.objs.size) (o := .dK []) (h' := s.heap.push { cls := .type "dict", data := .dict #[] }) (t' := s.toks) (fun _ _ q => Heap.get?_push_of_some _ q) (Nat.le_refl _) (dk_empty s.heap I.big)
  refine wpAny_Dict_pairs (knd := mixKind X.prog X.w) (pairs := [((eval k X.env), (do let x ← eval v X.env; standAt pos; pure x))]) rfl (by simp) (by simp) ?_
  refine evalPairs_cons (thn (hk pins _ σ _ _ I1 (q _ hn)) fun kv s1 ⟨x, H1, I2, r1, q1⟩ => wpAny_bind (thn (hv pins s1 σ H1 _ I2 q1) fun vv s2 ⟨y, H2, I3, r2, c, e, hp, q2⟩ => wpAny_bind (wpAny_standAt (wpAny_pure (evalPairs_nil ?_)))))
  subst e
  obtain ⟨z, hd, xs, rel, dd⟩ := dk_of I3.hok hp
  cases rel
  refine ⟨[(c, vv)], ⟨kV_is r1, rfl, True.intro⟩, dd, fun h' d' sb => ⟨.ref s.heap.objs.size, _, ?_, rfl, q2⟩⟩
  obtain ⟨o, es, ep, hq, rest⟩ := id d'
  exact d_write I3 (by rw [hp]; exact True.intro) sb ⟨o, hq⟩ ⟨by show 1 ≤ sizeLine; decide, hd, _, .cons ⟨rfl, r2⟩ .nil, d'⟩
end
end L2
set_option Elab.async false
set_option linter.all false
set_option maxRecDepth 100000
set_option maxHeartbeats 4000000



namespace Prf
open PySem L2
def top (i : Nat) : Stmt := PySem.Challenge.pw_fewnotes_k43_whole_records_turned_about.main.body.getD i (.Pass ⟨0, 0, 0, 0⟩)
abbrev s_is_whole : Stmt := top 7
abbrev s_is_below : Stmt := top 8
abbrev s_is_note : Stmt := top 10
abbrev s_is_cut : Stmt := top 12
abbrev s_least_cut : Stmt := top 13
abbrev s_greatest_cut : Stmt := top 14
abbrev s_keeps : Stmt := top 15
abbrev s_first_order : Stmt := top 16
abbrev s_ring : Stmt := top 17
abbrev s_how_many_cuts : Stmt := top 18
abbrev s_how_many_orders : Stmt := top 19
abbrev s_check_notes : Stmt := top 20
abbrev s_check_done : Stmt := top 21
abbrev s_check_order : Stmt := top 22
abbrev s_is_between : Stmt := top 23
abbrev s_has : Stmt := top 24
abbrev s_broken_notes : Stmt := top 25
abbrev s_firsts_of : Stmt := top 26
abbrev s_is_free : Stmt := top 27
abbrev s_free_hands : Stmt := top 28
abbrev s_ways_to_cuts : Stmt := top 29
abbrev s_ring_from : Stmt := top 30
abbrev s_longer_chains : Stmt := top 31
abbrev s_Lbag : Stmt := top 33
abbrev s_Lstir : Stmt := top 34
abbrev s_Ldraw : Stmt := top 35
abbrev s_Lcounts : Stmt := top 36
abbrev s_Lorder : Stmt := top 37
abbrev s_Lspots : Stmt := top 38
abbrev s_Lnote : Stmt := top 39
abbrev s_Lrecord : Stmt := top 40
abbrev s_Lkept : Stmt := top 42
abbrev s_Labout : Stmt := top 43
abbrev s_Lleft : Stmt := top 44
abbrev s_Lcounts_alike : Stmt := top 45
abbrev s_Lcuts_alike : Stmt := top 46
abbrev s_law : Stmt := top 47
structure Blt (mg : Str → Option Value) : Prop where
  b_ValueError : mg "ValueError" = none
  b_all : mg "all" = none
  b_bool : mg "bool" = none
  b_dict : mg "dict" = none
  b_int : mg "int" = none
  b_isinstance : mg "isinstance" = none
  b_len : mg "len" = none
  b_list : mg "list" = none
  b_max : mg "max" = none
  b_min : mg "min" = none
  b_range : mg "range" = none
  b_sum : mg "sum" = none
  b_tuple : mg "tuple" = none
  b_zip : mg "zip" = none
theorem sc_is_whole : FnScope ["value"] ["value"] (defScope s_is_whole) := ⟨rfl, rfl, rfl, by decide +kernel, rfl, by decide +kernel, by decide +kernel⟩
theorem sc_is_below : FnScope ["value", "count"] ["value", "count"] (defScope s_is_below) := ⟨rfl, rfl, rfl, by decide +kernel, rfl, by decide +kernel, by decide +kernel⟩
theorem sc_is_note : FnScope ["value"] ["value"] (defScope s_is_note) := ⟨rfl, rfl, rfl, by decide +kernel, rfl, by decide +kernel, by decide +kernel⟩
theorem sc_is_cut : FnScope ["record", "cut"] ["record", "cut"] (defScope s_is_cut) := ⟨rfl, rfl, rfl, by decide +kernel, rfl, by decide +kernel, by decide +kernel⟩
theorem sc_least_cut : FnScope ["record", "some", "cut", "broken", "note"] ["record", "some"] (defScope s_least_cut) := ⟨rfl, rfl, rfl, by decide +kernel, rfl, by decide +kernel, by decide +kernel⟩
theorem sc_greatest_cut : FnScope ["record", "some", "cut", "broken", "note"] ["record", "some"] (defScope s_greatest_cut) := ⟨rfl, rfl, rfl, by decide +kernel, rfl, by decide +kernel, by decide +kernel⟩
theorem sc_keeps : FnScope ["record", "order", "firsts", "done", "hand"] ["record", "order"] (defScope s_keeps) := ⟨rfl, rfl, rfl, by decide +kernel, rfl, by decide +kernel, by decide +kernel⟩
theorem sc_first_order : FnScope ["record", "firsts", "done", "order", "free"] ["record"] (defScope s_first_order) := ⟨rfl, rfl, rfl, by decide +kernel, rfl, by decide +kernel, by decide +kernel⟩
theorem sc_ring : FnScope ["record", "shortest", "starts", "start", "found"] ["record"] (defScope s_ring) := ⟨rfl, rfl, rfl, by decide +kernel, rfl, by decide +kernel, by decide +kernel⟩
theorem sc_how_many_cuts : FnScope ["record", "most"] ["record", "most"] (defScope s_how_many_cuts) := ⟨rfl, rfl, rfl, by decide +kernel, rfl, by decide +kernel, by decide +kernel⟩
theorem sc_how_many_orders : FnScope ["record", "most"] ["record", "most"] (defScope s_how_many_orders) := ⟨rfl, rfl, rfl, by decide +kernel, rfl, by decide +kernel, by decide +kernel⟩
theorem sc_check_notes : FnScope ["record"] ["record"] (defScope s_check_notes) := ⟨rfl, rfl, rfl, by decide +kernel, rfl, by decide +kernel, by decide +kernel⟩
theorem sc_check_done : FnScope ["record", "done"] ["record", "done"] (defScope s_check_done) := ⟨rfl, rfl, rfl, by decide +kernel, rfl, by decide +kernel, by decide +kernel⟩
theorem sc_check_order : FnScope ["record", "order", "hands"] ["record", "order"] (defScope s_check_order) := ⟨rfl, rfl, rfl, by decide +kernel, rfl, by decide +kernel, by decide +kernel⟩
theorem sc_is_between : FnScope ["counts", "note"] ["counts", "note"] (defScope s_is_between) := ⟨rfl, rfl, rfl, by decide +kernel, rfl, by decide +kernel, by decide +kernel⟩
theorem sc_has : FnScope ["done", "touch"] ["done", "touch"] (defScope s_has) := ⟨rfl, rfl, rfl, by decide +kernel, rfl, by decide +kernel, by decide +kernel⟩
theorem sc_broken_notes : FnScope ["record", "done"] ["record", "done"] (defScope s_broken_notes) := ⟨rfl, rfl, rfl, by decide +kernel, rfl, by decide +kernel, by decide +kernel⟩
theorem sc_firsts_of : FnScope ["record", "firsts", "note"] ["record"] (defScope s_firsts_of) := ⟨rfl, rfl, rfl, by decide +kernel, rfl, by decide +kernel, by decide +kernel⟩
theorem sc_is_free : FnScope ["counts", "firsts", "done", "hand"] ["counts", "firsts", "done", "hand"] (defScope s_is_free) := ⟨rfl, rfl, rfl, by decide +kernel, rfl, by decide +kernel, by decide +kernel⟩
theorem sc_free_hands : FnScope ["counts", "firsts", "done"] ["counts", "firsts", "done"] (defScope s_free_hands) := ⟨rfl, rfl, rfl, by decide +kernel, rfl, by decide +kernel, by decide +kernel⟩
theorem sc_ways_to_cuts : FnScope ["record", "most", "firsts", "ways", "latest", "further", "cut", "hand", "longer"] ["record", "most"] (defScope s_ways_to_cuts) := ⟨rfl, rfl, rfl, by decide +kernel, rfl, by decide +kernel, by decide +kernel⟩
theorem sc_ring_from : FnScope ["record", "start", "chains", "length", "back"] ["record", "start"] (defScope s_ring_from) := ⟨rfl, rfl, rfl, by decide +kernel, rfl, by decide +kernel, by decide +kernel⟩
theorem sc_longer_chains : FnScope ["record", "chains", "longer", "note", "chain"] ["record", "chains"] (defScope s_longer_chains) := ⟨rfl, rfl, rfl, by decide +kernel, rfl, by decide +kernel, by decide +kernel⟩
theorem sc_Lbag : FnScope ["script", "total", "cell"] ["script"] (defScope s_Lbag) := ⟨rfl, rfl, rfl, by decide +kernel, rfl, by decide +kernel, by decide +kernel⟩
theorem sc_Lstir : FnScope ["number", "place", "one", "two"] ["number", "place"] (defScope s_Lstir) := ⟨rfl, rfl, rfl, by decide +kernel, rfl, by decide +kernel, by decide +kernel⟩
theorem sc_Ldraw : FnScope ["bag", "many", "cell", "found"] ["bag", "many"] (defScope s_Ldraw) := ⟨rfl, rfl, rfl, by decide +kernel, rfl, by decide +kernel, by decide +kernel⟩
theorem sc_Lcounts : FnScope ["bag", "great", "few", "hands", "top"] ["bag", "great"] (defScope s_Lcounts) := ⟨rfl, rfl, rfl, by decide +kernel, rfl, by decide +kernel, by decide +kernel⟩
theorem sc_Lorder : FnScope ["bag", "counts", "left", "order", "step", "some"] ["bag", "counts"] (defScope s_Lorder) := ⟨rfl, rfl, rfl, by decide +kernel, rfl, by decide +kernel, by decide +kernel⟩
theorem sc_Lspots : FnScope ["order", "found", "many", "at"] ["order"] (defScope s_Lspots) := ⟨rfl, rfl, rfl, by decide +kernel, rfl, by decide +kernel, by decide +kernel⟩
theorem sc_Lnote : FnScope ["bag", "counts", "some", "i", "j"] ["bag", "counts"] (defScope s_Lnote) := ⟨rfl, rfl, rfl, by decide +kernel, rfl, by decide +kernel, by decide +kernel⟩
theorem sc_Lrecord : FnScope ["bag", "great", "mode", "twice", "counts", "spots", "ties", "step", "note", "along"] ["bag", "great"] (defScope s_Lrecord) := ⟨rfl, rfl, rfl, by decide +kernel, rfl, by decide +kernel, by decide +kernel⟩
theorem sc_Lkept : FnScope ["bag", "record", "firsts", "hand", "k", "other", "m", "now", "order", "step", "some", "free"] ["bag", "record"] (defScope s_Lkept) := ⟨rfl, rfl, rfl, by decide +kernel, rfl, by decide +kernel, by decide +kernel⟩
theorem sc_Labout : FnScope ["record", "counts", "ties", "found"] ["record"] (defScope s_Labout) := ⟨rfl, rfl, rfl, by decide +kernel, rfl, by decide +kernel, by decide +kernel⟩
theorem sc_Lleft : FnScope ["record", "some"] ["record", "some"] (defScope s_Lleft) := ⟨rfl, rfl, rfl, by decide +kernel, rfl, by decide +kernel, by decide +kernel⟩
theorem sc_Lcounts_alike : FnScope ["record", "turned", "many"] ["record", "turned", "many"] (defScope s_Lcounts_alike) := ⟨rfl, rfl, rfl, by decide +kernel, rfl, by decide +kernel, by decide +kernel⟩
theorem sc_Lcuts_alike : FnScope ["record", "turned", "one", "other", "least", "greatest", "both"] ["record", "turned", "one", "other"] (defScope s_Lcuts_alike) := ⟨rfl, rfl, rfl, by decide +kernel, rfl, by decide +kernel, by decide +kernel⟩
theorem sc_law : FnScope ["script", "bag", "great", "any_order", "record", "turned", "one", "other", "order", "first", "loop", "about"] ["script"] (defScope s_law) := ⟨rfl, rfl, rfl, by decide +kernel, rfl, by decide +kernel, by decide +kernel⟩
section
variable {P : Program} {w : World} {K : PySem.W.Frag} {mg : Str → Option Value} {base : Heap}
/-! ### the bag and its draws -/
def BagOk (H : Hp) (r b : Addr) (n : Nat) : Prop := ∃ (ns : List Int) (i f c t : Int), H r = some (.lst [.ref b, .int i, .int f, .int c, .int t]) ∧ H b = some (.lst (ns.map V.int)) ∧ b ≠ r ∧ 0 ≤ i ∧ i ≤ ns.length ∧ 0 ≤ f ∧ 0 ≤ c ∧ c ≤ n
theorem BagOk.keep {H H' : Hp} {r b : Addr} {n : Nat} (h : BagOk H r b n) (k : Same H H') : BagOk H' r b n := by
  obtain ⟨ns, i, f, c, t, e1, e2, q⟩ := h
  exact ⟨ns, i, f, c, t, k _ _ e1, k _ _ e2, q⟩
theorem BagOk.kp {H H' : Hp} {r b p : Addr} {n : Nat} (h : BagOk H r b n) (k : Kp p H H') (n1 : r ≠ p) (n2 : b ≠ p) : BagOk H' r b n := by
  obtain ⟨ns, i, f, c, t, e1, e2, q⟩ := h
  exact ⟨ns, i, f, c, t, k _ _ e1 n1, k _ _ e2 n2, q⟩
theorem BagOk.mono {H : Hp} {r b : Addr} {n m : Nat} (h : BagOk H r b n) (k : n ≤ m) : BagOk H r b m := by
  obtain ⟨ns, i, f, c, t, e1, e2, q0, q1, q2, q3, q4, q5⟩ := h
  exact ⟨ns, i, f, c, t, e1, e2, q0, q1, q2, q3, q4, by (clear q4 q3 q2 q1 q0 e2 e1; omega)⟩
theorem BagOk.lst {H : Hp} {r b : Addr} {n : Nat} (h : BagOk H r b n) : ∃ ys, H r = some (.lst ys) := by
  obtain ⟨ns, i, f, c, t, e1, _⟩ := h
  exact ⟨_, e1⟩
theorem BagOk.ne {H : Hp} {r b p : Addr} {n : Nat} (h : BagOk H r b n) (hp : H p = none) : p ≠ r ∧ p ≠ b := by
  obtain ⟨ns, i, f, c, t, e1, e2, _⟩ := h
  exact ⟨(ne_of_none e1 hp).symm, (ne_of_none e2 hp).symm⟩
theorem Kp.new {H H' : Hp} {r p : Addr} (k : Kp r H H') (hp : H' p = none) (hr : ∃ o, H' r = some o) : H p = none := by
  cases e : H p with
  | none => rfl
  | some o =>
    by_cases n : p = r
    · subst n
      obtain ⟨o', ho⟩ := hr
      rw [hp] at ho
      cases ho
    · rw [k _ _ e n] at hp
      cases hp
theorem BagOk.at {H : Hp} {r b : Addr} {n : Nat} (h : BagOk H r b n) : ∃ o, H r = some o := by
  obtain ⟨ns, i, f, c, t, e1, _⟩ := h
  exact ⟨_, e1⟩
theorem BagOk.tups {H H' : Hp} {r b : Addr} {n : Nat} (h : BagOk H r b n) (k : Kp r H H') : ∀ a xs, H a = some (HO.tup xs) → H' a = some (HO.tup xs) := by
  obtain ⟨ys, e⟩ := h.lst
  exact k.tups e
def spStir (K : PySem.W.Frag) : Sp := fun vs H Q _ => ∃ (x p : Int), vs = [.int x, .int p] ∧ 0 ≤ p ∧ p < 2 ^ 62 ∧ ∀ z : Int, 0 ≤ z → Q (.int z) H
theorem ok_stir {f : Addr} {fd : FuncData} (F : Fun K "_law_stir" "_law_stir" s_Lstir f fd) : FnOk P w K mg base CX0 1 f fd ["number", "place"] (spStir K) := by
  refine F.ok sc_Lstir (fun vs H Q E h => ?_) (fun cdv A outer s H vs Q E hr h => ?_)
  · obtain ⟨x, p, rfl, _⟩ := h
    rfl
  · obtain ⟨x, p, rfl, p0, p1, k⟩ := h
    refine ⟨_, (pss_cons (ps_set (i := 2) sc_Lstir.nd rfl (Or.inl rfl) (pe_op op_mod (pe_op op_add (pe_op op_add (pe_op op_mul (pv 0) pe_int) (pe_op op_mul (pv 1) pe_int)) pe_int) pe_int))
      (pss_cons (ps_set (i := 3) sc_Lstir.nd rfl (Or.inl rfl) (pe_op op_mod (pe_op op_mul (pv 2) (pv 2)) pe_int))
      (pss_one (ps_ret (pe_op op_fdiv (pe_op op_mod (pe_op op_add (pe_op op_add (pe_op op_mul (pv 3) pe_int) (pe_op op_mul (pe_op op_mul (pv 1) (pv 1)) pe_int)) (pe_op op_fdiv (pv 2) pe_int)) pe_int) pe_int))))), ?_⟩
    refine ⟨_, rfl, _, _, rfl, rfl, .inr ⟨by decide, by decide⟩, _, rfl, _, _, rfl, rfl, .inr ⟨by decide, by decide⟩, _, _, rfl, rfl, _, _, rfl, rfl, _, _, rfl, rfl, (by show (0 : Int) < 2305843009213693951; decide), ?_⟩
    have o0 : (0 : Int) ≤ (x * 998244353 + p * 1000000007 + 5) % 2305843009213693951 := Int.emod_nonneg _ (by decide)
    have o1 : (x * 998244353 + p * 1000000007 + 5) % 2305843009213693951 < 2305843009213693951 := Int.emod_lt_of_pos _ (by decide)
    generalize (x * 998244353 + p * 1000000007 + 5) % 2305843009213693951 = one at o0 o1
    refine ⟨_, rfl, _, rfl, _, _, rfl, rfl, .inl ⟨by (clear o1 o0 p1 p0; omega), by (clear o1 o0 p1 p0; omega)⟩, _, _, rfl, rfl, (by show (0 : Int) < 2305843009213693951; decide), ?_⟩
    refine ⟨_, rfl, _, _, rfl, rfl, .inr ⟨by decide, by decide⟩, _, rfl, _, rfl, _, _, rfl, rfl, .inl ⟨by (clear o1 o0 p1; omega), by (clear o1 o0 p0; omega)⟩, _, _, rfl, rfl, .inr ⟨by decide, by decide⟩, _, _, rfl, rfl, _, rfl, _, _, rfl, rfl, (by show CDiv _ 3; exact ⟨by decide, by decide⟩), _, _, rfl, rfl, _, _, rfl, rfl, (by show (0 : Int) < 2305843009213693921; decide), _, _, rfl, rfl, (by show CDiv _ 1024; exact ⟨by decide, by decide⟩), ?_⟩
    exact k _ (Int.ediv_nonneg (Int.emod_nonneg _ (by decide)) (by decide))
def spDraw (K : PySem.W.Frag) : Sp := fun vs H Q _ => ∃ (r b : Addr) (m : Int) (n : Nat), vs = [.ref r, .int m] ∧ BagOk H r b n ∧ n < 1099511627776 ∧ 0 < m ∧ m < 1329227995784915872903807060280344576 ∧ ∀ (z : Int) (H' : Hp), 0 ≤ z → z < m → BagOk H' r b (n + 1) → Kp r H H' → Q (.int z) H'
theorem ok_draw {f : Addr} {fd : FuncData} (F : Fun K "_law_draw" "_law_draw" s_Ldraw f fd) (F_Lstir : FnAt P w K mg base 1 "_law_stir" ["number", "place"] (spStir K)) (Bt : Blt mg) : FnOk P w K mg base CX0 2 f fd ["bag", "many"] (spDraw K) := by
  refine F.ok sc_Ldraw (fun vs H Q E h => ?_) (fun cdv A outer s H vs Q E hr h => ?_)
  · obtain ⟨r, b, m, n, rfl, _⟩ := h
    rfl
  · obtain ⟨r, b, m, n, rfl, ⟨ns, i, f, c, t, hR, hB, nb, i0, i1, f0, c0, c1⟩, hn, m0, m1, k⟩ := h
    have hu64 := hr.units
    refine ⟨_, (pss_cons (ps_if (pt_cmpR op_eq (pv 1) pe_int (nomark _)) (pss_one (ps_ret pe_int)) pss_nil)
      (pss_cons (ps_asg (pe_op op_add (pe_ix (ix_listK (K := K) rfl) (pv 0) pe_int (fun _ _ => rfl)) pe_int) (pg_sub (pv 0) pe_int set_list))
      (pss_cons (ps_if (PW.pt (pw_and (pt_cmpR op_lt (pe_ix (ix_listK (K := K) rfl) (pv 0) pe_int (fun _ _ => rfl)) pe_int (nomark _)) (pw_and1 (pt_cmpR op_eq (pe_ix (ix_listK (K := K) rfl) (pv 0) pe_int (fun _ _ => rfl)) (pe_callB (call_len_seqK (K := K) rfl) (by rfl) Bt.b_len bt_len (pa_cons (pe_ix (ix_listK (K := K) rfl) (pv 0) pe_int (fun _ _ => rfl)) pa_nil)) (nomark _))))) (pss_one (ps_ret (pe_op op_mod (pe_fn F_Lstir (hr.mono (by decide)) (by rfl) (pa_cons (pe_ix (ix_listK (K := K) rfl) (pv 0) pe_int (fun _ _ => rfl)) (pa_cons (pe_ix (ix_listK (K := K) rfl) (pv 0) pe_int (fun _ _ => rfl)) pa_nil))) (pv 1)))) pss_nil)
      (pss_cons (ps_if (pt_cmpR op_lt (pe_ix (ix_listK (K := K) rfl) (pv 0) pe_int (fun _ _ => rfl)) pe_int (nomark _)) (pss_cons (ps_set (i := 2) sc_Ldraw.nd rfl (Or.inl rfl) (pe_ix (ix_listK (K := K) rfl) (pe_ix (ix_listK (K := K) rfl) (pv 0) pe_int (fun _ _ => rfl)) (pe_ix (ix_listK (K := K) rfl) (pv 0) pe_int (fun _ _ => rfl)) (fun _ _ => rfl)))
      (pss_cons (ps_asg (pe_op op_add (pe_ix (ix_listK (K := K) rfl) (pv 0) pe_int (fun _ _ => rfl)) pe_int) (pg_sub (pv 0) pe_int set_list))
      (pss_cons (ps_if (pt_cmpR op_lt (pv 2) (pe_op op_pow pe_int pe_int) (nomark _)) (pss_one (ps_ret (pe_op op_mod (pe_fn F_Lstir (hr.mono (by decide)) (by rfl) (pa_cons (pe_op op_mod (pv 2) pe_int) (pa_cons (pe_ix (ix_listK (K := K) rfl) (pv 0) pe_int (fun _ _ => rfl)) pa_nil))) (pv 1)))) pss_nil)
      (pss_one (ps_asg (pe_op op_sub (pv 2) (pe_op op_pow pe_int pe_int)) (pg_sub (pv 0) pe_int set_list)))))) pss_nil)
      (pss_cons (ps_set (i := 3) sc_Ldraw.nd rfl (Or.inl rfl) (pe_op op_mod (pe_ix (ix_listK (K := K) rfl) (pv 0) pe_int (fun _ _ => rfl)) (pv 1)))
      (pss_cons (ps_asg (pe_op op_fdivB (pe_ix (ix_listK (K := K) rfl) (pv 0) pe_int (fun _ _ => rfl)) (pv 1)) (pg_sub (pv 0) pe_int set_list))
      (pss_one (ps_ret (pv 3))))))))), ?_⟩
    refine ⟨_, rfl, rfl, _, rfl, ?_⟩
    refine ite2 (fun h0 => ?_) (fun h0 => ?_)
    · have e : m = 1 := by injection (of_decide_eq_true h0)
      subst e
      exact k 0 H (by decide) (by decide) ⟨ns, i, f, c, t, hR, hB, nb, i0, i1, f0, c0, by (clear h0 m1 m0 hu64 hn c0 f0 i1 i0 nb hB hR; omega)⟩ (Kp.refl _ _)
    · -- bag[3] = bag[3] + 1
      refine ⟨_, rfl, _, _, _, _, rfl, rfl, SqL.of hR, rfl, _, _, rfl, rfl, _, rfl, _, _, _, _, rfl, rfl, hR, rfl, ?_⟩
      have k1 : Kp r H (upd H r (.lst [.ref b, .int i, .int f, .int (c + 1), .int t])) := Kp.set
      have hR1 : (upd H r (.lst [.ref b, .int i, .int f, .int (c + 1), .int t])) r = some (.lst [.ref b, .int i, .int f, .int (c + 1), .int t]) := upd_same
      have hB1 := k1 _ _ hB nb
      have ln : (List.map V.int ns).length = ns.length := List.length_map ..
      have pb1 : (0 : Int) ≤ c + 1 := by (clear ln hB1 hR1 h0 hu64 m1 m0 hn c1 f0 i1 i0 nb hB hR; omega)
      have pb2 : c + 1 < 2 ^ 62 := by (clear pb1 ln hB1 hR1 h0 hu64 m1 m0 c0 f0 i1 i0 nb hB hR; omega)
      have md0 : ∀ z : Int, 0 ≤ z % m := fun z => Int.emod_nonneg _ (by (clear pb2 pb1 ln hB1 hR1 h0 hu64 m1 hn c1 c0 f0 i1 i0 nb hB hR; omega))
      have md1 : ∀ z : Int, z % m < m := fun z => Int.emod_lt_of_pos _ m0
      -- bag[2] < 2 and bag[1] == len(bag[0])
      refine ⟨_, rfl, _, _, _, _, rfl, rfl, SqL.of hR1, rfl, _, _, rfl, rfl, _, rfl, ?_⟩
      by_cases f2 : f < 2
      · rw [decide_eq_true f2]
        refine iteT ?_
        refine ⟨_, rfl, _, _, _, _, rfl, rfl, SqL.of hR1, rfl, _, rfl, _, _, _, _, rfl, rfl, SqL.of hR1, rfl, b, _, rfl, .inl (SqL.of hB1), rfl, _, rfl, ?_⟩
        refine ite2 (fun h1 => ?_) (fun h1 => ?_)
        · refine ⟨_, rfl, _, _, _, _, rfl, rfl, SqL.of hR1, rfl, _, rfl, _, _, _, _, rfl, rfl, SqL.of hR1, rfl, t, c + 1, rfl, pb1, pb2, fun z z0 => ?_⟩
          refine ⟨_, rfl, _, _, rfl, rfl, m0, ?_⟩
          exact k _ _ (md0 z) (md1 z) ⟨ns, i, f, c + 1, t, hR1, hB1, nb, i0, i1, f0, pb1, by (clear z0 h1 f2 pb2 pb1 ln hB1 hR1 h0 hu64 m1 m0 hn c0 f0 i1 i0 nb hB hR; omega)⟩ k1
        · have hlt : i < ns.length := by
            have : ¬ i = (ns.length : Int) := fun z => h1 (decide_eq_true (by rw [ln, z]))
            omega
          obtain ⟨cell, hc, _⟩ : ∃ cell : Int, atI (ns.map V.int) i = some (V.int cell) ∧ True := by
            obtain ⟨m', rfl⟩ := Int.eq_ofNat_of_zero_le i0
            have : m' < ns.length := by (clear h1 hB1 hR1 i1 i0 hR f2 pb2 pb1 ln h0 hu64 m1 m0 hn c1 c0 f0 nb hB; omega)
            exact ⟨ns[m'], atI_nat (by simp [this]), trivial⟩
          refine ⟨_, rfl, _, _, _, _, rfl, rfl, SqL.of hR1, rfl, _, _, rfl, rfl, _, rfl, ?_⟩
          rw [decide_eq_true f2]
          refine iteT ?_
          -- cell = bag[0][bag[1]]
          refine ⟨_, rfl, _, _, _, _, rfl, rfl, SqL.of hR1, rfl, _, rfl, _, _, _, _, rfl, rfl, SqL.of hR1, rfl, _, _, _, _, rfl, rfl, SqL.of hB1, hc, ?_⟩
          -- bag[1] = bag[1] + 1
          refine ⟨_, rfl, _, _, _, _, rfl, rfl, SqL.of hR1, rfl, _, _, rfl, rfl, _, rfl, _, _, _, _, rfl, rfl, hR1, rfl, ?_⟩
          have k2 : Kp r (upd H r (.lst [.ref b, .int i, .int f, .int (c + 1), .int t])) (upd (upd H r (.lst [.ref b, .int i, .int f, .int (c + 1), .int t])) r (.lst [.ref b, .int (i + 1), .int f, .int (c + 1), .int t])) := Kp.set
          have hR2 : (upd (upd H r (.lst [.ref b, .int i, .int f, .int (c + 1), .int t])) r (.lst [.ref b, .int (i + 1), .int f, .int (c + 1), .int t])) r = some (.lst [.ref b, .int (i + 1), .int f, .int (c + 1), .int t]) := upd_same
          have hB2 := k2 _ _ hB1 nb
          refine ⟨_, rfl, _, _, rfl, rfl, (by show CPow 10 18; exact ⟨by decide, by decide, by decide⟩), _, _, rfl, rfl, _, rfl, ?_⟩
          refine ite2 (fun h2 => ?_) (fun h2 => ?_)
          · refine ⟨_, rfl, _, _, rfl, rfl, (by show (0 : Int) < 2305843009213693951; decide), _, rfl, _, _, _, _, rfl, rfl, SqL.of hR2, rfl, _, c + 1, rfl, pb1, pb2, fun z z0 => ?_⟩
            refine ⟨_, rfl, _, _, rfl, rfl, m0, ?_⟩
            exact k _ _ (md0 z) (md1 z) ⟨ns, i + 1, f, c + 1, t, hR2, hB2, nb, by (clear z0 h2 hB2 hR2 hc hlt h1 f2 pb2 pb1 ln hB1 hR1 h0 hu64 m1 m0 hn c1 c0 f0 i1 nb hB hR; omega), by (clear z0 h2 hB2 hR2 hc h1 f2 pb2 pb1 ln hB1 hR1 h0 hu64 m1 m0 hn c1 c0 f0 i1 i0 nb hB hR; omega), f0, pb1, by (clear z0 h2 hB2 hR2 hc hlt h1 f2 pb2 pb1 ln hB1 hR1 h0 hu64 m1 m0 hn c0 f0 i1 i0 nb hB hR; omega)⟩ (k1.trans k2)
          · have hbig : (0 : Int) ≤ cell - 10 ^ ((18 : Int).toNat) := by
              have h2' : (1000000000000000000 : Int) ≤ cell := by simpa using h2
              show (0 : Int) ≤ cell - 1000000000000000000
              (clear h2 hB2 hR2 hc hlt h1 f2 pb2 pb1 ln hB1 hR1 h0 hu64 m1 m0 hn c1 c0 f0 i1 i0 nb hB hR; omega)
            -- bag[2] = cell - 10 ** 18
            refine ⟨_, rfl, _, _, rfl, rfl, (by show CPow 10 18; exact ⟨by decide, by decide, by decide⟩), _, _, rfl, rfl, _, rfl, _, _, _, _, rfl, rfl, hR2, rfl, ?_⟩
            have hR3 : (upd (upd (upd H r (.lst [.ref b, .int i, .int f, .int (c + 1), .int t])) r (.lst [.ref b, .int (i + 1), .int f, .int (c + 1), .int t])) r (.lst [.ref b, .int (i + 1), .int (cell - 10 ^ ((18 : Int).toNat)), .int (c + 1), .int t])) r = some (.lst [.ref b, .int (i + 1), .int (cell - 10 ^ ((18 : Int).toNat)), .int (c + 1), .int t]) := upd_same
            have k3 : Kp r (upd (upd H r (.lst [.ref b, .int i, .int f, .int (c + 1), .int t])) r (.lst [.ref b, .int (i + 1), .int f, .int (c + 1), .int t])) (upd (upd (upd H r (.lst [.ref b, .int i, .int f, .int (c + 1), .int t])) r (.lst [.ref b, .int (i + 1), .int f, .int (c + 1), .int t])) r (.lst [.ref b, .int (i + 1), .int (cell - 10 ^ ((18 : Int).toNat)), .int (c + 1), .int t])) := Kp.set
            have hB3 := k3 _ _ hB2 nb
            refine ⟨_, rfl, _, _, _, _, rfl, rfl, SqL.of hR3, rfl, _, rfl, _, _, rfl, rfl, m0, ?_⟩
            refine ⟨_, rfl, _, _, _, _, rfl, rfl, SqL.of hR3, rfl, _, rfl, _, _, rfl, rfl, ⟨m0, m1⟩, _, rfl, _, _, _, _, rfl, rfl, hR3, rfl, ?_⟩
            refine ⟨_, rfl, ?_⟩
            refine k _ _ (md0 _) (md1 _) ⟨ns, i + 1, _, c + 1, t, upd_same, ?_, nb, by (clear hB3 hR3 hbig h2 hB2 hR2 hc hlt h1 f2 pb2 pb1 ln hB1 hR1 h0 hu64 m1 m0 hn c1 c0 f0 i1 nb hB hR; omega), by (clear hB3 hR3 hbig h2 hB2 hR2 hc h1 f2 pb2 pb1 ln hB1 hR1 h0 hu64 m1 m0 hn c1 c0 f0 i1 i0 nb hB hR; omega), Int.ediv_nonneg hbig (by (clear hB3 hR3 hbig h2 hB2 hR2 hc hlt h1 f2 pb2 pb1 ln hB1 hR1 h0 hu64 m1 hn c1 c0 f0 i1 i0 nb hB hR; omega)), pb1, by (clear hB3 hR3 hbig h2 hB2 hR2 hc hlt h1 f2 pb2 pb1 ln hB1 hR1 h0 hu64 m1 m0 hn c0 f0 i1 i0 nb hB hR; omega)⟩ (((k1.trans k2).trans k3).trans Kp.set)
            rw [upd_ne nb]
            exact hB3
      · have f2' : decide (f < 2) = false := decide_eq_false f2
        rw [f2']
        refine iteF ?_
        refine ⟨_, rfl, _, _, _, _, rfl, rfl, SqL.of hR1, rfl, _, _, rfl, rfl, _, rfl, ?_⟩
        rw [f2']
        refine iteF ?_
        refine ⟨_, rfl, _, _, _, _, rfl, rfl, SqL.of hR1, rfl, _, rfl, _, _, rfl, rfl, m0, ?_⟩
        refine ⟨_, rfl, _, _, _, _, rfl, rfl, SqL.of hR1, rfl, _, rfl, _, _, rfl, rfl, ⟨m0, m1⟩, _, rfl, _, _, _, _, rfl, rfl, hR1, rfl, ?_⟩
        refine ⟨_, rfl, ?_⟩
        refine k _ _ (md0 _) (md1 _) ⟨ns, i, _, c + 1, t, upd_same, ?_, nb, by (clear f2' f2 pb2 pb1 ln hB1 hR1 h0 hu64 m1 m0 hn c1 c0 f0 i1 nb hB hR; omega), by (clear f2' f2 pb2 pb1 ln hB1 hR1 h0 hu64 m1 m0 hn c1 c0 f0 i0 nb hB hR; omega), Int.ediv_nonneg f0 (by (clear f2' f2 pb2 pb1 ln hB1 hR1 h0 hu64 m1 hn c1 c0 f0 i1 i0 nb hB hR; omega)), pb1, by (clear f2' f2 pb2 pb1 ln hB1 hR1 h0 hu64 m1 m0 hn c0 f0 i1 i0 nb hB hR; omega)⟩ (k1.trans Kp.set)
        rw [upd_ne nb]
        exact hB1
def spBag (K : PySem.W.Frag) : Sp := fun vs H Q _ => ∃ (a : Addr) (ns : List Int), vs = [.ref a] ∧ SqL K H a (ns.map V.int) ∧ ns.length ≤ 63 ∧ ∀ (r b : Addr) (H' : Hp), H r = none → H b = none → BagOk H' r b 0 → Same H H' → Q (.ref r) H'
theorem ok_bag {f : Addr} {fd : FuncData} (F : Fun K "_law_bag" "_law_bag" s_Lbag f fd) (Bt : Blt mg) : FnOk P w K mg base CX0 1 f fd ["script"] (spBag K) := by
  refine F.ok sc_Lbag (fun vs H Q E h => ?_) (fun cdv A outer s H vs Q E hr h => ?_)
  · obtain ⟨a, ns, rfl, _⟩ := h
    rfl
  · obtain ⟨a, ns, rfl, hs, hlen, k⟩ := h
    refine ⟨_, (pss_cons (ps_set (i := 1) sc_Lbag.nd rfl (Or.inl rfl) pe_int)
      (pss_cons (ps_for PassesOwn.never rfl (pi_listK (K := K) rfl (pv 0)) (pg_name (i := 2) sc_Lbag.nd rfl (Or.inl rfl))
      (pss_one (ps_set (i := 1) sc_Lbag.nd rfl (Or.inl rfl) (pe_op op_mod (pe_op op_add (pe_op op_add (pe_op op_mul (pv 1) pe_int) (pe_op op_mod (pv 2) pe_int)) pe_int) pe_int))))
      (pss_one (ps_ret (pe_lst (pa_cons (pe_callTy (call_list_ofK (K := K) rfl) (by rfl) Bt.b_list bt_list (pa_cons (pv 0) pa_nil)) (pa_cons pe_int (pa_cons pe_int (pa_cons pe_int (pa_cons (pv 1) pa_nil)))))))))), ?_⟩
    refine ⟨_, rfl, a, rfl, ⟨_, hs⟩, for_list (K := K) (a := a) (xs := ns.map V.int) (fun i σ H2 => ∃ (t : Int) (v : Option V), σ = [some (.ref a), some (.int t), v] ∧ H2 = H)
      ⟨1, none, rfl, rfl⟩ (fun i σ H2 _ ⟨_, _, _, e⟩ => by rw [e]; exact hs) ?_ ?_⟩
    · rintro i y σ H2 hi ⟨t, v, rfl, rfl⟩
      obtain ⟨z, rfl⟩ : ∃ z, y = V.int z := by
        rw [List.getElem?_map] at hi
        cases e : ns[i]? with
        | none => rw [e] at hi; cases hi
        | some z => rw [e] at hi; exact ⟨z, (Option.some.inj hi).symm⟩
      refine ⟨_, rfl, _, _, rfl, rfl, .inr ⟨by decide, by decide⟩, _, rfl, _, _, rfl, rfl, (by show (0 : Int) < 2305843009213693951; decide), _, _, rfl, rfl, _, _, rfl, rfl, _, _, rfl, rfl, (by show (0 : Int) < 2305843009213693951; decide), ?_⟩
      exact ⟨_, _, rfl, rfl⟩
    · rintro σ H2 ⟨t, v, rfl, rfl⟩
      refine ⟨_, rfl, a, _, rfl, .inl hs, fun b hb => ?_⟩
      refine ⟨_, rfl, (by show 5 ≤ sizeLine; decide), fun r hr' => ?_⟩
      have sm := same_new (o := HO.lst (ns.map V.int)) hb
      exact k r b _ (sm.free hr') hb ⟨ns, 0, 0, 0, t, upd_same, same_new hr' _ _ upd_same, ne_of_none upd_same hr', by decide, by (clear hr' hb hlen; omega), by decide, by decide, by decide⟩ (sm.trans (same_new hr'))
section
variable {D r b : Addr} {te : TE} {Q : VK} {rest : St} {H1 : Hp} {n bn : Nat}
theorem drawn_step {zs : List Int} {z : Int} {p : Nat → Int → Prop} {i : Nat} (hl : zs.length = i) (h : ∀ j z, zs[j]? = some z → p j z) (hz : p i z) : ∀ j y, (zs ++ [z])[j]? = some y → p j y := by
  intro j y e
  by_cases hj : j < zs.length
  · rw [List.getElem?_append_left hj] at e
    exact h j y e
  · rw [List.getElem?_append_right (by (clear e hl; omega))] at e
    have : j - zs.length = 0 := by
      have := (List.getElem?_eq_some_iff.mp e).1
      simp at this
      omega
    rw [this] at e
    cases e
    have : j = i := by omega
    rw [this]
    exact hz
theorem comp_drawR (p : Nat → Int → Prop) (hD : H1 D = none) (hB : BagOk H1 r b bn) (hx : n ≤ 100000)
    (hs : ∀ i H (F : VK), i < n → Kp r H1 H → BagOk H r b (bn + i) → (∀ z H', p i z → Kp r H H' → BagOk H' r b (bn + i + 1) → F (.int z) H') → te (some (.int (0 + i)) :: rest) H F)
    (hd : ∀ H (zs : List Int), zs.length = n → (∀ i z, zs[i]? = some z → p i z) → H D = some (.lst (zs.map V.int)) → Kp r H1 H → BagOk H r b (bn + n) → Q (.ref D) H) : CompW (Itr 0 n) (gName 0) tAll te Q D (none :: rest) H1 := by
  obtain ⟨nr, nb⟩ := hB.ne hD
  have mv : ∀ {H : Hp} {o : HO}, Kp r H1 H → Kp r H1 (upd H D o) := fun k c u e m => by rw [upd_ne (ne_of_none e hD)]; exact k c u e m
  refine comp_range (lo := 0) (n := n) (fun i σ H => (∃ v, σ = v :: rest) ∧ ∃ zs : List Int, zs.length = i ∧ (∀ j z, zs[j]? = some z → p j z) ∧ H D = some (.lst (zs.map V.int)) ∧ Kp r H1 H ∧ BagOk H r b (bn + i)) ⟨⟨none, rfl⟩, [], rfl, fun j z e => (by cases e), upd_same, .of_same (same_new hD), hB.keep (same_new hD)⟩ ?_ (fun σ H ⟨_, zs, hl, hp, e, k, B⟩ => hd H zs hl hp e k B)
  rintro i σ H hi ⟨⟨v, rfl⟩, zs, hl, hp, e, k1, B1⟩
  refine hs i H _ hi k1 B1 fun z H' hz k2 B2 => ?_
  refine ⟨_, k2 _ _ e nr, ?_, ⟨_, rfl⟩, zs ++ [z], by simp [hl], drawn_step hl hp hz, ?_, mv (k1.trans k2), B2.kp Kp.set nr.symm nb.symm⟩
  · rw [List.length_map, sizeLine_eq]; omega
  · rw [upd_same]; simp
theorem comp_drawL {a : Addr} {xs : List V} {f : Nat} (p : Nat → Int → Prop) (hD : H1 D = none) (hB : BagOk H1 r b bn) (hx : xs.length ≤ 100000) (ha : H1 a = some (.lst xs)) (nar : a ≠ r)
    (hs : ∀ i x H (F : VK), xs[i]? = some x → Kp r H1 H → BagOk H r b (bn + i) → (∀ z H', p i z → Kp r H H' → BagOk H' r b (bn + i + 1) → F (.int z) H') → te (some x :: rest) H F)
    (hd : ∀ H (zs : List Int), zs.length = xs.length → (∀ i z, zs[i]? = some z → p i z) → H D = some (.lst (zs.map V.int)) → Kp r H1 H → BagOk H r b (bn + xs.length) → Q (.ref D) H) : CompW (Itl K a) (gName 0) tAll te Q D (none :: rest) H1 := by
  obtain ⟨nr, nb⟩ := hB.ne hD
  have mv : ∀ {H : Hp} {o : HO}, Kp r H1 H → Kp r H1 (upd H D o) := fun k c u e m => by rw [upd_ne (ne_of_none e hD)]; exact k c u e m
  refine comp_list (K := K) (xs := xs) (fun i σ H => (∃ v, σ = v :: rest) ∧ ∃ zs : List Int, zs.length = i ∧ (∀ j z, zs[j]? = some z → p j z) ∧ H D = some (.lst (zs.map V.int)) ∧ Kp r H1 H ∧ BagOk H r b (bn + i)) ⟨⟨none, rfl⟩, [], rfl, fun j z e => (by cases e), upd_same, .of_same (same_new hD), hB.keep (same_new hD)⟩ (fun i σ H _ ⟨_, _, _, _, _, k, _⟩ => SqL.of (k _ _ ha nar)) ?_ (fun σ H ⟨_, zs, hl, hp, e, k, B⟩ => hd H zs hl hp e k B)
  rintro i x σ H hi ⟨⟨v, rfl⟩, zs, hl, hp, e, k1, B1⟩
  have hil : i < xs.length := (List.getElem?_eq_some_iff.mp hi).1
  refine hs i x H _ hi k1 B1 fun z H' hz k2 B2 => ?_
  refine ⟨_, k2 _ _ e nr, ?_, ⟨_, rfl⟩, zs ++ [z], by simp [hl], drawn_step hl hp hz, ?_, mv (k1.trans k2), B2.kp Kp.set nr.symm nb.symm⟩
  · rw [List.length_map, sizeLine_eq]; omega
  · rw [upd_same]; simp
end

/-! ### records -/
abbrev Nt := Int × Int × Int × Int
def nD (x : Nt) : PyData := .tuple [.int x.1, .int x.2.1, .int x.2.2.1, .int x.2.2.2]
def nV (x : Nt) : List V := [.int x.1, .int x.2.1, .int x.2.2.1, .int x.2.2.2]
theorem imm_nD (x : Nt) : imm (nD x) = true := rfl
theorem dats1 {H : Hp} {v : V} {d : PyData} (h : Dat H v d) : Dats H [v] [d] := by
  simp only [Dats, and_true]
  exact h
theorem dat_nt {H : Hp} {t : Addr} {x : Nt} (h : H t = some (.tup (nV x))) : Dat H (.ref t) (nD x) := by
  simp only [nD, Dat]
  exact ⟨t, _, rfl, h, by simp only [nV, Dats, Dat, and_self]⟩
theorem dat_nt_inv {H : Hp} {v : V} {x : Nt} (h : Dat H v (nD x)) : ∃ t, v = .ref t ∧ H t = some (.tup (nV x)) := by
  simp only [nD, Dat] at h
  obtain ⟨t, vs, e, q, d⟩ := h
  match vs, d with
  | [a, b, c, z], d =>
    simp only [Dats, Dat, and_true] at d
    obtain ⟨rfl, rfl, rfl, rfl⟩ := d
    exact ⟨t, e, q⟩
  | [], d => simp only [Dats] at d
  | [_], d => simp only [Dats, and_false] at d
  | [_, _], d => simp only [Dats, and_false] at d
  | [_, _, _], d => simp only [Dats, and_false] at d
  | _ :: _ :: _ :: _ :: _ :: _, d => simp only [Dats, and_false] at d
def NtsAt (H : Hp) (a : Addr) (ns : List Nt) : Prop := ∃ vs, H a = some (.lst vs) ∧ Dats H vs (ns.map nD)
theorem NtsAt.kp {H H' : Hp} {a r : Addr} {ns : List Nt} (h : NtsAt H a ns) (hr : ∀ a xs, H a = some (HO.tup xs) → H' a = some (HO.tup xs)) (k : Kp r H H') (n : a ≠ r) : NtsAt H' a ns := by
  obtain ⟨vs, e, d⟩ := h
  exact ⟨vs, k _ _ e n, Dats.keep hr _ (imms_map _ imm_nD ns) d⟩
theorem NtsAt.same {H H' : Hp} {a : Addr} {ns : List Nt} (h : NtsAt H a ns) (k : Same H H') : NtsAt H' a ns := by
  obtain ⟨vs, e, d⟩ := h
  exact ⟨vs, k _ _ e, Dats.keep k.tups _ (imms_map _ imm_nD ns) d⟩
theorem nts_get {H : Hp} {vs : List V} {ns : List Nt} {i : Nat} {v : V} (d : Dats H vs (ns.map nD)) (e : vs[i]? = some v) : ∃ x t, ns[i]? = some x ∧ v = .ref t ∧ H t = some (.tup (nV x)) := by
  obtain ⟨q, eq, dq⟩ := d.get e
  rw [List.getElem?_map] at eq
  cases ex : ns[i]? with
  | none => rw [ex] at eq; cases eq
  | some x =>
    rw [ex] at eq
    cases eq
    obtain ⟨t, rfl, ht⟩ := dat_nt_inv dq
    exact ⟨x, t, rfl, rfl, ht⟩
def gI (cs : List Int) (h : Int) : Int := (cs[h.toNat]?).getD 0
theorem atI_gI {cs : List Int} {h : Int} (h0 : 0 ≤ h) (h1 : h < cs.length) : atI (cs.map V.int) h = some (.int (gI cs h)) := by
  obtain ⟨m, rfl⟩ := Int.eq_ofNat_of_zero_le h0
  have : m < cs.length := by (clear h0; omega)
  refine atI_nat ?_
  simp [gI, this]
theorem gI_nat {cs : List Int} {i : Nat} {c : Int} (h : cs[i]? = some c) : gI cs i = c := by simp [gI, h]
theorem ixN_nat {n : Nat} {i : Int} (h0 : 0 ≤ i) (h1 : i < n) : ixN n i = some i.toNat := by unfold ixN; rw [if_pos h0, if_pos h1]
theorem gI_set {cs : List Int} {h k v : Int} (h0 : 0 ≤ h) (h1 : h < cs.length) (k0 : 0 ≤ k) : gI (cs.set h.toNat v) k = if k = h then v else gI cs k := by
  unfold gI
  rw [List.getElem?_set]
  by_cases e : k = h
  · subst e
    have : k.toNat < cs.length := by (clear h0; omega)
    simp [this]
  · have : ¬ h.toNat = k.toNat := by (clear h1; omega)
    simp [e, this]
def NtOk (cs : List Int) (x : Nt) : Prop := (0 ≤ x.1 ∧ x.1 < cs.length) ∧ (0 ≤ x.2.1 ∧ x.2.1 < gI cs x.1) ∧ (0 ≤ x.2.2.1 ∧ x.2.2.1 < cs.length) ∧ (0 ≤ x.2.2.2 ∧ x.2.2.2 < gI cs x.2.2.1) ∧ x.1 ≠ x.2.2.1
def CsOk (cs : List Int) : Prop := cs.length ≤ 8 ∧ ∀ c ∈ cs, 0 ≤ c ∧ c ≤ 300
theorem CsOk.gI {cs : List Int} (h : CsOk cs) (i : Int) : 0 ≤ gI cs i ∧ gI cs i ≤ 300 := by
  unfold Prf.gI
  cases e : cs[i.toNat]? with
  | none => simp
  | some c => exact h.2 c (List.mem_of_getElem? e)

/-- few hands of few touches -/
def CsSm (cs : List Int) : Prop := cs.length ≤ 4 ∧ ∀ c ∈ cs, c ≤ 6
def spCounts (K : PySem.W.Frag) : Sp := fun vs H Q _ => ∃ (r b : Addr) (n : Nat) (g : Int), vs = [.ref r, .int g] ∧ (g = 0 ∨ g = 1) ∧ BagOk H r b n ∧ n < 549755813888 ∧ ∀ (a : Addr) (cs : List Int) (H' : Hp), H a = none → H' a = some (.lst (cs.map V.int)) → CsOk cs → (g = 0 → CsSm cs) → BagOk H' r b (n + 20) → Kp r H H' → Q (.ref a) H'
theorem menu7 (n : Int) (h0 : 0 ≤ n) (h1 : n < 7) : ∃ v : Int, atI [V.int 3, V.int 2, V.int 4, V.int 2, V.int 3, V.int 1, V.int 0] n = some (V.int v) ∧ 0 ≤ v ∧ v ≤ 4 := by
  have : n = 0 ∨ n = 1 ∨ n = 2 ∨ n = 3 ∨ n = 4 ∨ n = 5 ∨ n = 6 := by omega
  rcases this with rfl | rfl | rfl | rfl | rfl | rfl | rfl
  · exact ⟨3, rfl, by decide, by decide⟩
  · exact ⟨2, rfl, by decide, by decide⟩
  · exact ⟨4, rfl, by decide, by decide⟩
  · exact ⟨2, rfl, by decide, by decide⟩
  · exact ⟨3, rfl, by decide, by decide⟩
  · exact ⟨1, rfl, by decide, by decide⟩
  · exact ⟨0, rfl, by decide, by decide⟩
theorem menu2 {u v : V} (n : Int) (h0 : 0 ≤ n) (h1 : n < 2) : (n = 0 ∧ atI [u, v] n = some u) ∨ (n = 1 ∧ atI [u, v] n = some v) := by
  have : n = 0 ∨ n = 1 := by omega
  rcases this with rfl | rfl
  · exact .inl ⟨rfl, rfl⟩
  · exact .inr ⟨rfl, rfl⟩
theorem ok_counts {f : Addr} {fd : FuncData} (F : Fun K "_law_counts" "_law_counts" s_Lcounts f fd) (F_Ldraw : FnAt P w K mg base 2 "_law_draw" ["bag", "many"] (spDraw K)) (Bt : Blt mg) : FnOk P w K mg base CX0 3 f fd ["bag", "great"] (spCounts K) := by
  refine F.ok sc_Lcounts (fun vs H Q E h => ?_) (fun cdv A outer s H vs Q E hr h => ?_)
  · obtain ⟨r, b, n, g, rfl, _⟩ := h
    rfl
  · obtain ⟨r, b, n, g, rfl, hg, B0, hn, k⟩ := h
    refine ⟨_, (pss_cons (ps_if (pt_cmpR op_eq (pv 1) pe_int (nomark _)) (pss_one (ps_ret (pe_comp rfl (N := ["hand", "bag"]) (own := ["hand"]) (caps := [0]) (CompScope.of (by kernel_rfl)) (pi_range1 (by rfl) Bt.b_range (pa_cons (pe_ix (ix_listK (K := K) rfl) (pe_lst (pa_cons pe_int (pa_cons pe_int (pa_cons pe_int (pa_cons pe_int (pa_cons pe_int (pa_cons pe_int (pa_cons pe_int pa_nil)))))))) (pe_fn F_Ldraw (hr.mono (by decide)) (by rfl) (pa_cons (pv 0) (pa_cons pe_int pa_nil))) (fun _ _ => rfl)) pa_nil)) (fun _ _ _ _ => (pg_name (i := 0) (show List.Nodup (["hand", "bag"] : List Str) by decide +kernel) rfl (Or.inl rfl))) (fun _ _ _ _ => pts_nil) (fun _ _ _ _ => (pe_fn F_Ldraw (hr.mono (by decide)) (by rfl) (pa_cons (pv 1) (pa_cons pe_int pa_nil))))))) pss_nil)
      (pss_cons (ps_set (i := 2) sc_Lcounts.nd rfl (Or.inl rfl) (pe_fn F_Ldraw (hr.mono (by decide)) (by rfl) (pa_cons (pv 0) (pa_cons pe_int pa_nil))))
      (pss_cons (ps_set (i := 3) sc_Lcounts.nd rfl (Or.inl rfl) (pe_op op_sub pe_int (pe_fn F_Ldraw (hr.mono (by decide)) (by rfl) (pa_cons (pv 0) (pa_cons pe_int pa_nil)))))
      (pss_cons (ps_set (i := 4) sc_Lcounts.nd rfl (Or.inr rfl) (pe_ix (ix_listK (K := K) rfl) (pe_lst (pa_cons (pe_op op_add (pe_op op_fdiv pe_int (pe_callB (call_max2 rfl) (by rfl) Bt.b_max bt_max (pa_cons pe_int (pa_cons (pv 3) pa_nil)))) pe_int) (pa_cons pe_int pa_nil))) (pv 2) (fun _ _ => rfl)))
      (pss_one (ps_ret (pe_comp rfl (N := ["hand", "bag", "top"]) (own := ["hand"]) (caps := [0, 4]) (CompScope.of (by kernel_rfl)) (pi_range1 (by rfl) Bt.b_range (pa_cons (pv 3) pa_nil)) (fun _ _ _ _ => (pg_name (i := 0) (show List.Nodup (["hand", "bag", "top"] : List Str) by decide +kernel) rfl (Or.inl rfl))) (fun _ _ _ _ => pts_nil) (fun _ _ _ _ => (pe_fn F_Ldraw (hr.mono (by decide)) (by rfl) (pa_cons (pv 1) (pa_cons (pv 2) pa_nil))))))))))), ?_⟩
    refine ⟨_, rfl, rfl, _, rfl, ?_⟩
    refine ite2 (fun h0 => ?_) (fun h0 => ?_)
    · refine ⟨(by show 7 ≤ sizeLine; decide), fun p hp => ?_⟩
      have sm := same_new (o := HO.lst [V.int 3, V.int 2, V.int 4, V.int 2, V.int 3, V.int 1, V.int 0]) hp
      have np := B0.ne hp
      refine ⟨_, rfl, r, b, 7, n, rfl, B0.keep sm, by omega, by decide, by decide, fun z H1 z0 z1 B1 k1 => ?_⟩
      obtain ⟨v, ev, v0, v1⟩ := menu7 z z0 z1
      refine ⟨_, _, _, _, rfl, rfl, SqL.of (k1 _ _ upd_same np.1), ev, v, rfl, by omega, by omega, fun D hD => ?_⟩
      have kk : Kp r H H1 := (Kp.of_same sm).trans k1
      refine comp_drawR (fun _ z => 0 ≤ z ∧ z < 7) hD B1 (by omega) (fun i H2 F hi k2 B2 kF => ?_) (fun H2 zs hl hp2 e k2 B2 => ?_)
      · exact ⟨_, rfl, r, b, 7, _, rfl, B2, by omega, by decide, by decide, fun z H3 z0 z1 B3 k3 => kF z H3 ⟨z0, z1⟩ k3 B3⟩
      · have sm7 : ∀ c ∈ zs, 0 ≤ c ∧ c < 7 := fun c hc => by
          obtain ⟨i, hi⟩ := List.getElem?_of_mem hc
          exact hp2 i c hi
        exact k D zs H2 (Kp.new kk hD B1.at) e ⟨by omega, fun c hc => by have := sm7 c hc; omega⟩ (fun _ => ⟨by omega, fun c hc => by have := sm7 c hc; omega⟩) (B2.mono (by omega)) (kk.trans k2)
    · -- few, hands
      refine ⟨_, rfl, r, b, 2, n, rfl, B0, by omega, by decide, by decide, fun few H1 f0 f1 B1 k1 => ?_⟩
      refine ⟨_, rfl, r, b, 9, n + 1, rfl, B1, by omega, by decide, by decide, fun z H2 z0 z1 B2 k2 => ⟨_, _, rfl, rfl, ?_⟩⟩
      -- top
      refine ⟨_, rfl, _, _, rfl, ?_⟩
      have mx : (1 : Int) ≤ (if 8 - z > 1 then 8 - z else 1) ∧ (if 8 - z > 1 then 8 - z else 1) ≤ 8 := by split <;> omega
      have mx' : (if ((fun i j => V.int (i - j)) 8 z : V) = (fun i j => V.int (i - j)) 8 z then (1 : Int) else 0) = 1 := by simp
      refine ⟨_, _, rfl, rfl, (by show CDiv 300 (if 8 - z > 1 then 8 - z else 1); exact ⟨by omega, by omega⟩), _, _, rfl, rfl, (by show 2 ≤ sizeLine; decide), fun p hp => ?_⟩
      have q0 : (1 : Int) ≤ 300 / (if 8 - z > 1 then 8 - z else 1) + 1 := by
        have : 0 ≤ (300 : Int) / (if 8 - z > 1 then 8 - z else 1) := Int.ediv_nonneg (by decide) (by omega)
        omega
      have q1 : (300 : Int) / (if 8 - z > 1 then 8 - z else 1) + 1 ≤ 301 := by
        have : (300 : Int) / (if 8 - z > 1 then 8 - z else 1) ≤ 300 := Int.ediv_le_self _ (by decide)
        omega
      obtain ⟨top, et, t0, t1⟩ : ∃ top : Int, atI [V.int (300 / (if 8 - z > 1 then 8 - z else 1) + 1), V.int 4] few = some (V.int top) ∧ 0 < top ∧ top ≤ 301 := by
        rcases menu2 (u := V.int (300 / (if 8 - z > 1 then 8 - z else 1) + 1)) (v := V.int 4) few f0 f1 with ⟨_, e⟩ | ⟨_, e⟩
        · exact ⟨_, e, by omega, by omega⟩
        · exact ⟨_, e, by decide, by decide⟩
      refine ⟨_, rfl, _, _, _, _, rfl, rfl, SqL.of upd_same, et, ?_⟩
      have sm := same_new (o := HO.lst [V.int (300 / (if 8 - z > 1 then 8 - z else 1) + 1), V.int 4]) hp
      have kk : Kp r H (upd H2 p (HO.lst [V.int (300 / (if 8 - z > 1 then 8 - z else 1) + 1), V.int 4])) := (k1.trans k2).trans (.of_same sm)
      have B3 := B2.keep sm
      refine ⟨_, rfl, 8 - z, rfl, by omega, by omega, fun D hD => ?_⟩
      refine comp_drawR (fun _ z => 0 ≤ z ∧ z < top) hD B3 (by omega) (fun i H2 F hi k2 B2 kF => ?_) (fun H2 zs hl hp2 e k2 B2 => ?_)
      · exact ⟨_, rfl, _, rfl, r, b, top, _, rfl, B2, by omega, t0, by omega, fun z H3 z0 z1 B3 k3 => kF z H3 ⟨z0, z1⟩ k3 B3⟩
      · refine k D zs H2 (Kp.new kk hD B3.at) e ⟨by omega, fun c hc => ?_⟩ (fun z => absurd (decide_eq_true (by rw [z])) h0) (B2.mono (by omega)) (kk.trans k2)
        obtain ⟨i, hi⟩ := List.getElem?_of_mem hc
        have := hp2 i c hi
        omega

/-- the hands that have some left -/
def pos (ls : List Int) : List Int := (List.range ls.length).filterMap fun (i : Nat) => if gI ls (i : Int) > 0 then some (i : Int) else none
theorem mem_pos {ls : List Int} {h : Int} (m : h ∈ pos ls) : 0 ≤ h ∧ h < ls.length ∧ 0 < gI ls h := by
  unfold pos at m
  rw [List.mem_filterMap] at m
  obtain ⟨i, hi, e⟩ := m
  have hi' : i < ls.length := by simpa using hi
  by_cases q : gI ls i > 0
  · rw [if_pos q] at e
    cases e
    exact ⟨by omega, by omega, q⟩
  · rw [if_neg q] at e
    cases e
theorem pos_mem {ls : List Int} {h : Int} (h0 : 0 ≤ h) (h1 : h < ls.length) (q : 0 < gI ls h) : h ∈ pos ls := by
  unfold pos
  rw [List.mem_filterMap]
  refine ⟨h.toNat, by simp; omega, ?_⟩
  have e : ((h.toNat : Nat) : Int) = h := by omega
  rw [e, if_pos q]
theorem pos_len (ls : List Int) : (pos ls).length ≤ ls.length := fm_len _ _
theorem pos_nodup (ls : List Int) : (pos ls).Nodup := by
  unfold pos
  refine List.Pairwise.filterMap (R := fun a b => a ≠ b) _ ?_ List.nodup_range
  intro a b n c ec d ed
  by_cases q : gI ls a > 0
  · by_cases q2 : gI ls b > 0
    · rw [if_pos q] at ec
      rw [if_pos q2] at ed
      cases ec
      cases ed
      intro z
      exact n (by omega)
    · rw [if_neg q2] at ed
      cases ed
  · rw [if_neg q] at ec
    cases ec
theorem pos_map (ls : List Int) : (List.range ls.length).filterMap (fun (i : Nat) => if gI ls (i : Int) > 0 then some (V.int (0 + (i : Int))) else none) = (pos ls).map V.int := by
  unfold pos
  rw [List.map_filterMap]
  refine fm_congr _ trivial fun i _ => ?_
  by_cases q : gI ls (i : Int) > 0
  · rw [if_pos q, if_pos q]; simp
  · rw [if_neg q, if_neg q]; rfl
theorem sum_pos : ∀ {ls : List Int}, 0 < ls.sum → ∃ i : Nat, i < ls.length ∧ 0 < gI ls i
  | [], h => by simp at h
  | x :: ls, h => by
    by_cases q : 0 < x
    · exact ⟨0, by simp, by simpa [gI] using q⟩
    · rw [List.sum_cons] at h
      obtain ⟨i, hi, e⟩ := sum_pos (ls := ls) (by omega)
      exact ⟨i + 1, by simp [hi], by simpa [gI] using e⟩
theorem sum_set : ∀ {ls : List Int} {i : Nat} {x : Int}, ls[i]? = some x → ∀ y, (ls.set i y).sum = ls.sum - x + y
  | [], i, x, h, y => by cases h
  | z :: ls, 0, x, h, y => by
    cases h
    simp only [List.set_cons_zero, List.sum_cons]
    omega
  | z :: ls, i + 1, x, h, y => by
    simp only [List.set_cons_succ, List.sum_cons]
    rw [sum_set (ls := ls) (i := i) (x := x) (by simpa using h) y]
    omega
theorem sum_le : ∀ {ls : List Int}, (∀ c ∈ ls, 0 ≤ c ∧ c ≤ 300) → 0 ≤ ls.sum ∧ ls.sum ≤ 300 * ls.length
  | [], _ => by simp
  | x :: ls, h => by
    have a := h x (by simp)
    have b := sum_le (ls := ls) fun c hc => h c (by simp [hc])
    rw [List.sum_cons, List.length_cons]
    omega

def OrdOk (cs os : List Int) : Prop := os.length ≤ 2400 ∧ ∀ h : Int, 0 ≤ h → h < cs.length → (os.count h : Int) = gI cs h
def spOrder (K : PySem.W.Frag) : Sp := fun vs H Q _ => ∃ (r b : Addr) (n : Nat) (a : Addr) (cs : List Int), vs = [.ref r, .ref a] ∧ BagOk H r b n ∧ n < 274877906944 ∧ H a = some (.lst (cs.map V.int)) ∧ a ≠ r ∧ CsOk cs ∧ ∀ (o : Addr) (os : List Int) (H' : Hp), H o = none → H' o = some (.lst (os.map V.int)) → OrdOk cs os → (∀ h ∈ os, 0 ≤ h ∧ h < cs.length) → BagOk H' r b (n + 2400) → Kp r H H' → Q (.ref o) H'
theorem ok_order {f : Addr} {fd : FuncData} (F : Fun K "_law_order" "_law_order" s_Lorder f fd) (F_Ldraw : FnAt P w K mg base 2 "_law_draw" ["bag", "many"] (spDraw K)) (Bt : Blt mg) : FnOk P w K mg base CX0 3 f fd ["bag", "counts"] (spOrder K) := by
  refine F.ok sc_Lorder (fun vs H Q E h => ?_) (fun cdv A outer s H vs Q E hr h => ?_)
  · obtain ⟨r, b, n, a, cs, rfl, _⟩ := h
    rfl
  · obtain ⟨r, b, n, a, cs, rfl, B0, hn, ha, nar, ok, k⟩ := h
    refine ⟨_, (pss_cons (ps_set (i := 2) sc_Lorder.nd rfl (Or.inr rfl) (pe_callTy (call_list_ofK (K := K) rfl) (by rfl) Bt.b_list bt_list (pa_cons (pv 1) pa_nil)))
      (pss_cons (ps_set (i := 3) sc_Lorder.nd rfl (Or.inl rfl) (pe_lst pa_nil))
      (pss_cons (ps_for PassesOwn.never rfl (pi_range1 (by rfl) Bt.b_range (pa_cons (pe_callB (call_sumK (K := K) rfl rfl) (by rfl) Bt.b_sum bt_sum (pa_cons (pv 1) pa_nil)) pa_nil)) (pg_name (i := 4) sc_Lorder.nd rfl (Or.inl rfl))
      (pss_cons (ps_setC (i := 5) rfl sc_Lorder.nd rfl (Or.inl rfl) (N := ["hand", "left"]) (own := ["hand"]) (caps := [2]) (CompScope.of (by kernel_rfl)) (pi_range1 (by rfl) Bt.b_range (pa_cons (pe_callB (call_len_seqK (K := K) rfl) (by rfl) Bt.b_len bt_len (pa_cons (pv 2) pa_nil)) pa_nil)) (fun _ _ _ _ => (pg_name (i := 0) (show List.Nodup (["hand", "left"] : List Str) by decide +kernel) rfl (Or.inl rfl))) (fun _ _ _ _ => (pts_one (pt_cmpR op_gt (pe_ix (ix_listK (K := K) rfl) (pv 1) (pv 0) (fun _ _ => rfl)) pe_int (nomark _)))) (fun _ _ _ _ => (pv 0)))
      (pss_cons (ps_expr (pe_appendK (K := K) rfl (pv 3) (pa_cons (pe_ix (ix_listK (K := K) rfl) (pv 5) (pe_fn F_Ldraw (hr.mono (by decide)) (by rfl) (pa_cons (pv 0) (pa_cons (pe_callB (call_len_seqK (K := K) rfl) (by rfl) Bt.b_len bt_len (pa_cons (pv 5) pa_nil)) pa_nil))) (fun _ _ => rfl)) pa_nil)))
      (pss_one (ps_asg (pe_op op_sub (pe_ix (ix_listK (K := K) rfl) (pv 2) (pe_ix (ix_listK (K := K) rfl) (pv 3) (pe_un un_neg pe_int) (fun _ _ => rfl)) (fun _ _ => rfl)) pe_int) (pg_sub (pv 2) (pe_ix (ix_listK (K := K) rfl) (pv 3) (pe_un un_neg pe_int) (fun _ _ => rfl)) set_list))))))
      (pss_one (ps_ret (pv 3)))))), ?_⟩
    -- left = list(counts)
    refine ⟨_, rfl, a, _, rfl, .inl (SqL.of ha), fun l hl => ?_⟩
    have sm1 := same_new (o := HO.lst (cs.map V.int)) hl
    refine ⟨(by show 0 ≤ sizeLine; decide), fun p hp => ?_⟩
    have sm2 := same_new (o := HO.lst []) hp
    have nlp : l ≠ p := ne_of_none upd_same hp
    have hp0 : H p = none := sm1.free hp
    have nl := B0.ne hl
    have np := B0.ne hp0
    have hsum := sum_le ok.2
    have clen := ok.1
    refine ⟨_, rfl, a, cs, rfl, SqL.of (sm2 _ _ (sm1 _ _ ha)), cs.sum, rfl, by omega, by omega, ?_⟩
    refine for_range (lo := 0) (n := cs.sum.toNat) (fun i σ H2 => ∃ (ls os : List Int) (x y : Option V), σ = [some (.ref r), some (.ref a), some (.ref l), some (.ref p), x, y] ∧ H2 l = some (.lst (ls.map V.int)) ∧ H2 p = some (.lst (os.map V.int)) ∧
        ls.length = cs.length ∧ (∀ h : Int, 0 ≤ h → 0 ≤ gI ls h ∧ gI ls h + (os.count h : Int) = (if h < cs.length then gI cs h else 0)) ∧ ls.sum + i = cs.sum ∧ os.length = i ∧ (∀ h ∈ os, 0 ≤ h ∧ h < (cs.length : Int)) ∧ BagOk H2 r b (n + i) ∧ Kp r H H2)
      ⟨cs, [], none, none, rfl, sm2 _ _ upd_same, upd_same, rfl, fun h h0 => ⟨(ok.gI h).1, ?_⟩, by simp, rfl, (fun h hh => by cases hh), (B0.keep sm1).keep sm2, .of_same (sm1.trans sm2)⟩ ?_ ?_
    · by_cases q : h < cs.length
      · rw [if_pos q]; simp
      · rw [if_neg q]
        have : cs[h.toNat]? = none := by simp; omega
        simp [gI, this]
    · rintro i σ H2 hi ⟨ls, os, x, y, rfl, hL, hP, ll, hgi, hs, ol, oir, B2, k2⟩
      have spos : 0 < ls.sum := by omega
      -- some = [hand for hand in range(len(left)) if left[hand] > 0]
      refine ⟨_, rfl, l, _, rfl, .inl (SqL.of hL), _, rfl, by rw [List.length_map]; omega, by rw [List.length_map]; omega, fun D hD => ?_⟩
      have lnm : (((ls.map V.int).length : Nat) : Int).toNat = ls.length := by simp
      rw [lnm]
      refine comp_valR (fun (i : Nat) => if gI ls (i : Int) > 0 then some (V.int (0 + (i : Int))) else none) hD (by omega) (fun j H3 G F hj s3 kG kF => ?_) (fun H3 s3 e3 => ?_)
      · refine ⟨_, rfl, _, rfl, _, _, _, _, rfl, rfl, SqL.of (s3 _ _ hL), (atI_gI (h := 0 + (j : Int)) (by omega) (by omega)), _, _, rfl, rfl, _, rfl, ?_⟩
        have ej : (0 + (j : Int)) = (j : Int) := by omega
        rw [ej]
        refine ite2 (fun q => ?_) (fun q => ?_)
        · have q := of_decide_eq_true q
          refine ⟨_, rfl, kF _ H3 (Same.refl _) ?_⟩
          rw [if_pos q, ej]
        · have q : ¬ gI ls (j : Int) > 0 := fun z => q (decide_eq_true z)
          exact kG H3 (Same.refl _) (if_neg q)
      · rw [pos_map] at e3
        have B3 := B2.keep s3
        have hL3 := s3 _ _ hL
        have hP3 := s3 _ _ hP
        have nD : D ≠ r := (B2.ne hD).1
        obtain ⟨i0, hi0, gp⟩ := sum_pos spos
        have plen : 0 < (pos ls).length := List.length_pos_of_mem (pos_mem (h := (i0 : Int)) (by omega) (by omega) gp)
        have plen8 := pos_len ls
        -- order.append(some[draw])
        refine ⟨_, rfl, .inl ⟨rfl, _, SqL.of hP3⟩, _, rfl, _, rfl, _, rfl, D, _, rfl, .inl (SqL.of e3), r, b, _, _, rfl, B3, by omega, by rw [List.length_map]; omega, by rw [List.length_map]; omega, fun z H4 z0 z1 B4 k4 => ?_⟩
        rw [List.length_map] at z1
        obtain ⟨h, eh⟩ : ∃ h, (pos ls)[z.toNat]? = some h := ⟨(pos ls)[z.toNat]'(by omega), by simp⟩
        have hm := mem_pos (List.mem_of_getElem? eh)
        have ez : atI ((pos ls).map V.int) z = some (.int h) := by
          obtain ⟨m, rfl⟩ := Int.eq_ofNat_of_zero_le z0
          refine atI_nat ?_
          have eh' : (pos ls)[m]? = some h := eh
          rw [List.getElem?_map, eh']; rfl
        have hP4 := k4 _ _ hP3 np.1
        have hL4 := k4 _ _ hL3 nl.1
        refine ⟨_, _, _, _, rfl, rfl, SqL.of (k4 _ _ e3 nD), ez, p, _, _, rfl, rfl, hP4, (by rw [List.length_map, sizeLine_eq]; omega), ?_⟩
        have kp5 : Kp p H4 (upd H4 p (.lst (os.map V.int ++ [V.int h]))) := Kp.set
        have hL5 := kp5 _ _ hL4 nlp
        have hP5 : (upd H4 p (.lst (os.map V.int ++ [V.int h]))) p = some (.lst (os.map V.int ++ [V.int h])) := upd_same
        -- left[order[-1]] = left[order[-1]] - 1
        refine ⟨_, rfl, _, rfl, _, rfl, _, _, _, _, rfl, rfl, SqL.of hP5, atI_last _ _, _, _, _, _, rfl, rfl, SqL.of hL5, atI_gI hm.1 hm.2.1, _, _, rfl, rfl, _, rfl, _, rfl, _, rfl, _, _, _, _, rfl, rfl, SqL.of hP5, atI_last _ _, _, _, _, _, rfl, rfl, hL5, ixN_nat hm.1 (by rw [List.length_map]; exact hm.2.1), ?_⟩
        have kl6 : Kp l (upd H4 p (.lst (os.map V.int ++ [V.int h]))) (upd (upd H4 p (.lst (os.map V.int ++ [V.int h]))) l (.lst ((ls.map V.int).set h.toNat (V.int (gI ls h - 1))))) := Kp.set
        refine ⟨ls.set h.toNat (gI ls h - 1), os ++ [h], _, _, rfl, ?_, ?_, by simp [ll], fun h' h0' => ?_, ?_, by simp [ol], (fun z hz => by
          rcases List.mem_append.mp hz with hz | hz
          · exact oir z hz
          · have : z = h := by simpa using hz
            subst this
            exact ⟨hm.1, by rw [← ll]; exact hm.2.1⟩), ?_, ?_⟩
        · show (upd (upd H4 p (.lst (os.map V.int ++ [V.int h]))) l (.lst ((ls.map V.int).set h.toNat (V.int (gI ls h - 1))))) l = _
          rw [upd_same, List.map_set]
        · refine (kl6 _ _ hP5 nlp.symm).trans ?_
          simp
        · have q := hgi h' h0'
          have hc : ((os ++ [h]).count h' : Int) = os.count h' + (if h' = h then 1 else 0) := by
            rw [List.count_append]
            by_cases e : h' = h
            · subst e; simp
            · have : ¬ h = h' := fun z => e z.symm
              simp [e, this]
          rw [gI_set hm.1 (by omega) h0', hc]
          by_cases e : h' = h
          · subst e
            rw [if_pos rfl, if_pos rfl]
            have := hm.2.2
            omega
          · rw [if_neg e, if_neg e]
            omega
        · have e : ls[h.toNat]? = some (gI ls h) := by
            have : h.toNat < ls.length := by omega
            simp [gI, this]
          rw [sum_set e]
          omega
        · exact ((B4.kp kp5 np.1.symm np.2.symm).kp kl6 nl.1.symm nl.2.symm).mono (by omega)
        · intro c u ec nc
          have n1 : c ≠ p := ne_of_none ec hp0
          have n2 : c ≠ l := ne_of_none ec hl
          exact kl6 _ _ (kp5 _ _ (k4 _ _ (s3 _ _ (k2 _ _ ec nc)) nc) n1) n2
    · rintro σ H2 ⟨ls, os, x, y, rfl, hL, hP, ll, hgi, hs, ol, oir, B2, k2⟩
      refine ⟨_, rfl, k p os H2 hp0 hP ⟨by omega, fun h h0 h1 => ?_⟩ oir (B2.mono (by omega)) k2⟩
      have q := hgi h h0
      rw [if_pos h1] at q
      have z : gI ls h = 0 := by
        have nn : ∀ h : Int, 0 ≤ h → 0 ≤ gI ls h := fun h h0 => (hgi h h0).1
        have s0 : ls.sum = 0 := by omega
        by_cases e : 0 < gI ls h
        · exfalso
          have : ∀ (ms : List Int), (∀ c ∈ ms, 0 ≤ c) → ∀ c ∈ ms, c ≤ ms.sum := by
            intro ms
            induction ms with
            | nil => intro _ c hc; cases hc
            | cons m ms ih =>
              intro hm c hc
              have m0 := hm m (by simp)
              have ms0 : 0 ≤ ms.sum := by
                clear ih hc
                induction ms with
                | nil => simp
                | cons y ys ih2 =>
                  have := hm y (by simp)
                  have := ih2 (fun c hc => hm c (by simp at hc ⊢; rcases hc with z | z; exact .inl z; exact .inr (.inr z)))
                  rw [List.sum_cons]; omega
              rw [List.sum_cons]
              rcases List.mem_cons.mp hc with rfl | hc
              · omega
              · have := ih (fun c hc => hm c (by simp [hc])) c hc
                omega
          have hle : h.toNat < ls.length := by omega
          have mem : gI ls h ∈ ls := by
            have e : ls[h.toNat]? = some (gI ls h) := by simp [gI, hle]
            exact List.mem_of_getElem? e
          have := this ls (fun c hc => by
            obtain ⟨i, hi⟩ := List.getElem?_of_mem hc
            have := nn (i : Int) (by omega)
            rw [gI_nat hi] at this
            exact this) _ mem
          omega
        · have := nn h h0
          omega
      omega

/-! ### spots, notes, records -/
def SpotOk (kvs : List (List Key × V)) (os : List Int) : Prop := ∀ (h : Int) (k : Nat), k < os.count h → ∃ p : Nat, valV kvs [Sum.inl h, Sum.inl (k : Int)] = some (.int p) ∧ os[p]? = some h ∧ (os.take p).count h = k
def spSpots (K : PySem.W.Frag) : Sp := fun vs H Q _ => ∃ (a : Addr) (os : List Int), vs = [.ref a] ∧ H a = some (.lst (os.map V.int)) ∧ os.length ≤ 2400 ∧ ∀ (d : Addr) (kvs : List (List Key × V)) (H' : Hp), H d = none → H' d = some (.dT kvs) → SpotOk kvs os → Same H H' → Q (.ref d) H'
theorem ok_spots {f : Addr} {fd : FuncData} (F : Fun K "_law_spots" "_law_spots" s_Lspots f fd) (Bt : Blt mg) : FnOk P w K mg base CX0 1 f fd ["order"] (spSpots K) := by
  refine F.ok sc_Lspots (fun vs H Q E h => ?_) (fun cdv A outer s H vs Q E hr h => ?_)
  · obtain ⟨a, os, rfl, _⟩ := h
    rfl
  · obtain ⟨a, os, rfl, ha, hlen, k⟩ := h
    have hu := hu_of hr
    refine ⟨_, (pss_cons (ps_set (i := 1) sc_Lspots.nd rfl (Or.inl rfl) pe_dnewT)
      (pss_cons (ps_set (i := 2) sc_Lspots.nd rfl (Or.inl rfl) pe_dnewK)
      (pss_cons (ps_for PassesOwn.never rfl (pi_range1 (by rfl) Bt.b_range (pa_cons (pe_callB (call_len_seqK (K := K) rfl) (by rfl) Bt.b_len bt_len (pa_cons (pv 0) pa_nil)) pa_nil)) (pg_name (i := 3) sc_Lspots.nd rfl (Or.inl rfl))
      (pss_cons (ps_dput hu (pv 2) (pe_ix (ix_listK (K := K) rfl) (pv 0) (pv 3) (fun _ _ => rfl)) (pe_op op_add (pe_dget2 hu (pv 2) (pe_ix (ix_listK (K := K) rfl) (pv 0) (pv 3) (fun _ _ => rfl)) pe_int ⟨rfl, rfl, rfl, rfl⟩) pe_int) rfl)
      (pss_one (ps_dput hu (pv 1) (pe_tup (pa_cons (pe_ix (ix_listK (K := K) rfl) (pv 0) (pv 3) (fun _ _ => rfl)) (pa_cons (pe_op op_sub (pe_dget hu (pv 2) (pe_ix (ix_listK (K := K) rfl) (pv 0) (pv 3) (fun _ _ => rfl)) (fun _ _ => rfl)) pe_int) pa_nil))) (pv 3) rfl))))
      (pss_one (ps_ret (pv 1)))))), ?_⟩
    intro d hd
    have sm1 := same_new (o := HO.dT []) hd
    intro m hm
    have sm2 := same_new (o := HO.dK []) hm
    have ndm : d ≠ m := ne_of_none upd_same hm
    have hm0 : H m = none := sm1.free hm
    have ha2 := sm2 _ _ (sm1 _ _ ha)
    refine ⟨_, rfl, a, _, rfl, .inl (SqL.of ha2), _, rfl, by rw [List.length_map]; omega, by rw [List.length_map]; omega, ?_⟩
    have lnm : (((os.map V.int).length : Nat) : Int).toNat = os.length := by simp
    rw [lnm]
    refine for_range (lo := 0) (n := os.length) (fun i σ H2 => ∃ (fk : List (List Key × V)) (mk : List (Key × V)) (x : Option V), σ = [some (.ref a), some (.ref d), some (.ref m), x] ∧ Same H H2 ∧ H2 d = some (.dT fk) ∧ H2 m = some (.dK mk) ∧
        fk.length ≤ i ∧ mk.length ≤ i ∧ (∀ h : Int, (valV mk (Sum.inl h)).getD (.int 0) = .int ((os.take i).count h)) ∧ SpotOk fk (os.take i))
      ⟨[], [], none, rfl, sm1.trans sm2, sm2 _ _ upd_same, upd_same, Nat.zero_le _, Nat.zero_le _, fun h => by simp [valV], fun h k hk => by simp at hk⟩ ?_ ?_
    · rintro i σ H2 hi ⟨fk, mk, x, rfl, sm, hD, hM, fl, ml, hv, hS⟩
      have haH := sm _ _ ha
      obtain ⟨y, ey⟩ : ∃ y, os[i]? = some y := ⟨os[i], by simp [hi]⟩
      have tk : os.take (i + 1) = os.take i ++ [y] := by rw [List.take_add_one, ey]; rfl
      have ei : (0 + (i : Int)) = (i : Int) := by omega
      have at_ : ∀ (xs : List V), xs = os.map V.int → atI xs (0 + (i : Int)) = some (.int y) := by
        rintro xs rfl
        rw [ei]
        refine atI_nat ?_
        rw [List.getElem?_map, ey]; rfl
      -- many[order[at]] = many.get(order[at], 0) + 1
      refine ⟨_, rfl, m, rfl, .inl ⟨_, .inl hM⟩, _, rfl, _, rfl, _, _, _, _, rfl, rfl, SqL.of haH, at_ _ rfl, _, DGet.k (k := Sum.inl y) hM, ?_⟩
      rw [hv y]
      refine ⟨_, _, rfl, rfl, _, rfl, _, rfl, _, rfl, _, _, _, _, rfl, rfl, SqL.of haH, at_ _ rfl, m, _, rfl, DPut.k (k := Sum.inl y) hM (by rw [sizeLine_eq]; omega), ?_⟩
      have k1 : Kp m H2 (upd H2 m (.dK (putK mk (Sum.inl y) (V.int (((os.take i).count y : Nat) + 1))))) := Kp.set
      have ha1 := k1 _ _ haH (ne_of haH hM (by intro z; cases z))
      have hD1 := k1 _ _ hD ndm
      have hM1 : (upd H2 m (.dK (putK mk (Sum.inl y) (V.int (((os.take i).count y : Nat) + 1))))) m = some (.dK (putK mk (Sum.inl y) (V.int (((os.take i).count y : Nat) + 1)))) := upd_same
      -- found[order[at], many[order[at]] - 1] = at
      have gv : valV (putK mk (Sum.inl y) (V.int (((os.take i).count y : Nat) + 1))) (Sum.inl y) = some (V.int (((os.take i).count y : Nat) + 1)) := by rw [valV_put, if_pos rfl]
      refine ⟨_, rfl, _, rfl, _, rfl, _, rfl, _, _, _, _, rfl, rfl, SqL.of ha1, at_ _ rfl, _, rfl, _, rfl, _, rfl, _, _, _, _, rfl, rfl, SqL.of ha1, at_ _ rfl, m, _, rfl, gv ▸ DGet.k (k := Sum.inl y) hM1, _, _, rfl, rfl, (by show 2 ≤ sizeLine; decide), fun t ht => ?_⟩
      have st := same_new (o := HO.tup [V.int y, V.int ((((os.take i).count y : Nat) : Int) + 1 - 1)]) ht
      refine ⟨d, _, rfl, DPut.t (k := [Sum.inl y, Sum.inl ((((os.take i).count y : Nat) : Int) + 1 - 1)]) (st _ _ hD1) upd_same (by rw [sizeLine_eq]; omega), ?_⟩
      have ec : (((os.take i).count y : Nat) : Int) + 1 - 1 = ((os.take i).count y : Nat) := by omega
      refine ⟨_, putK mk (Sum.inl y) (V.int (((os.take i).count y : Nat) + 1)), _, rfl, ?_, upd_same, ?_, ?_, ?_, fun h => ?_, fun h j hj => ?_⟩
      · intro c u e
        have n1 : c ≠ d := ne_of_none e hd
        have n2 : c ≠ m := ne_of_none e hm0
        rw [upd_ne n1]
        exact st _ _ (k1 _ _ (sm _ _ e) n2)
      · rw [upd_ne ndm.symm]
        exact st _ _ hM1
      · exact Nat.le_trans (length_putK ..) (by omega)
      · exact Nat.le_trans (length_putK ..) (by omega)
      · rw [valV_put, tk, List.count_append]
        by_cases e : h = y
        · subst e
          rw [if_pos rfl]; simp
        · rw [if_neg (fun z => e (Sum.inl.inj z)), hv h]
          have : ¬ y = h := fun z => e z.symm
          simp [this]
      · rw [valV_put]
        by_cases e : ([Sum.inl h, Sum.inl (j : Int)] : List Key) = [Sum.inl y, Sum.inl ((((os.take i).count y : Nat) : Int) + 1 - 1)]
        · rw [if_pos e]
          injection e with z1 z2
          injection z2 with z2 _
          have eh : h = y := Sum.inl.inj z1
          have ej : (j : Int) = (((os.take i).count y : Nat) : Int) + 1 - 1 := Sum.inl.inj z2
          subst eh
          have tl : (os.take i).length = i := by rw [List.length_take]; omega
          refine ⟨i, by rw [ei], ?_, ?_⟩
          · rw [tk, List.getElem?_append_right (by omega), tl]; simp
          · rw [tk, List.take_append_of_le_length (by omega), List.take_take, Nat.min_self]; omega
        · rw [if_neg e]
          have hj' : j < (os.take i).count h := by
            rw [tk, List.count_append] at hj
            by_cases ehy : h = y
            · subst ehy
              simp at hj
              have : j ≠ (os.take i).count h := fun z => e (by rw [z, ec])
              omega
            · have : ¬ y = h := fun z => ehy z.symm
              simpa [this] using hj
          obtain ⟨p, e1, e2, e3⟩ := hS h j hj'
          have pl : p < (os.take i).length := (List.getElem?_eq_some_iff.mp e2).1
          exact ⟨p, e1, by rw [tk, List.getElem?_append_left pl]; exact e2, by rw [tk, List.take_append_of_le_length (by omega)]; exact e3⟩
    · rintro σ H2 ⟨fk, mk, x, rfl, sm, hD, hM, fl, ml, hv, hS⟩
      rw [List.take_length] at hS
      exact ⟨_, rfl, k d fk H2 hd hD hS sm⟩
def spNote (K : PySem.W.Frag) : Sp := fun vs H Q _ => ∃ (r b : Addr) (n : Nat) (a : Addr) (cs : List Int), vs = [.ref r, .ref a] ∧ BagOk H r b n ∧ n < 549755813888 ∧ H a = some (.lst (cs.map V.int)) ∧ a ≠ r ∧ CsOk cs ∧
  (∀ H', (pos cs).length < 2 → BagOk H' r b (n + 4) → Kp r H H' → Q .non H') ∧ ∀ (t : Addr) (x : Nt) (H' : Hp), H t = none → H' t = some (.tup (nV x)) → NtOk cs x → BagOk H' r b (n + 4) → Kp r H H' → Q (.ref t) H'
theorem pos_at {ls : List Int} {z : Int} (z0 : 0 ≤ z) (z1 : z < (pos ls).length) : ∃ h, (pos ls)[z.toNat]? = some h ∧ atI ((pos ls).map V.int) z = some (.int h) ∧ 0 ≤ h ∧ h < ls.length ∧ 0 < gI ls h := by
  obtain ⟨m, rfl⟩ := Int.eq_ofNat_of_zero_le z0
  have hm : m < (pos ls).length := by omega
  have e : (pos ls)[m]? = some (pos ls)[m] := by simp [hm]
  refine ⟨(pos ls)[m], e, atI_nat ?_, mem_pos (List.mem_of_getElem? e)⟩
  rw [List.getElem?_map, e]; rfl
theorem ok_note {f : Addr} {fd : FuncData} (F : Fun K "_law_note" "_law_note" s_Lnote f fd) (F_Ldraw : FnAt P w K mg base 2 "_law_draw" ["bag", "many"] (spDraw K)) (Bt : Blt mg) : FnOk P w K mg base CX0 3 f fd ["bag", "counts"] (spNote K) := by
  refine F.ok sc_Lnote (fun vs H Q E h => ?_) (fun cdv A outer s H vs Q E hr h => ?_)
  · obtain ⟨r, b, n, a, cs, rfl, _⟩ := h
    rfl
  · obtain ⟨r, b, n, a, cs, rfl, B0, hn, ha, nar, ok, kN, k⟩ := h
    refine ⟨_, (pss_cons (ps_setC (i := 2) rfl sc_Lnote.nd rfl (Or.inl rfl) (N := ["hand", "counts"]) (own := ["hand"]) (caps := [1]) (CompScope.of (by kernel_rfl)) (pi_range1 (by rfl) Bt.b_range (pa_cons (pe_callB (call_len_seqK (K := K) rfl) (by rfl) Bt.b_len bt_len (pa_cons (pv 1) pa_nil)) pa_nil)) (fun _ _ _ _ => (pg_name (i := 0) (show List.Nodup (["hand", "counts"] : List Str) by decide +kernel) rfl (Or.inl rfl))) (fun _ _ _ _ => (pts_one (pt_cmpR op_gt (pe_ix (ix_listK (K := K) rfl) (pv 1) (pv 0) (fun _ _ => rfl)) pe_int (nomark _)))) (fun _ _ _ _ => (pv 0)))
      (pss_cons (ps_if (pt_cmpR op_lt (pe_callB (call_len_seqK (K := K) rfl) (by rfl) Bt.b_len bt_len (pa_cons (pv 2) pa_nil)) pe_int (nomark _)) (pss_one (ps_ret pe_non)) pss_nil)
      (pss_cons (ps_set (i := 3) sc_Lnote.nd rfl (Or.inl rfl) (pe_fn F_Ldraw (hr.mono (by decide)) (by rfl) (pa_cons (pv 0) (pa_cons (pe_callB (call_len_seqK (K := K) rfl) (by rfl) Bt.b_len bt_len (pa_cons (pv 2) pa_nil)) pa_nil))))
      (pss_cons (ps_set (i := 4) sc_Lnote.nd rfl (Or.inl rfl) (pe_op op_mod (pe_op op_add (pe_op op_add (pv 3) pe_int) (pe_fn F_Ldraw (hr.mono (by decide)) (by rfl) (pa_cons (pv 0) (pa_cons (pe_op op_sub (pe_callB (call_len_seqK (K := K) rfl) (by rfl) Bt.b_len bt_len (pa_cons (pv 2) pa_nil)) pe_int) pa_nil)))) (pe_callB (call_len_seqK (K := K) rfl) (by rfl) Bt.b_len bt_len (pa_cons (pv 2) pa_nil))))
      (pss_one (ps_ret (pe_tup (pa_cons (pe_ix (ix_listK (K := K) rfl) (pv 2) (pv 3) (fun _ _ => rfl)) (pa_cons (pe_fn F_Ldraw (hr.mono (by decide)) (by rfl) (pa_cons (pv 0) (pa_cons (pe_ix (ix_listK (K := K) rfl) (pv 1) (pe_ix (ix_listK (K := K) rfl) (pv 2) (pv 3) (fun _ _ => rfl)) (fun _ _ => rfl)) pa_nil))) (pa_cons (pe_ix (ix_listK (K := K) rfl) (pv 2) (pv 4) (fun _ _ => rfl)) (pa_cons (pe_fn F_Ldraw (hr.mono (by decide)) (by rfl) (pa_cons (pv 0) (pa_cons (pe_ix (ix_listK (K := K) rfl) (pv 1) (pe_ix (ix_listK (K := K) rfl) (pv 2) (pv 4) (fun _ _ => rfl)) (fun _ _ => rfl)) pa_nil))) pa_nil))))))))))), ?_⟩
    have c8 := ok.1
    refine ⟨_, rfl, a, _, rfl, .inl (SqL.of ha), _, rfl, by rw [List.length_map]; omega, by rw [List.length_map]; omega, fun D hD => ?_⟩
    have lnm : (((cs.map V.int).length : Nat) : Int).toNat = cs.length := by simp
    rw [lnm]
    refine comp_valR (fun (i : Nat) => if gI cs (i : Int) > 0 then some (V.int (0 + (i : Int))) else none) hD (by omega) (fun j H3 G F hj s3 kG kF => ?_) (fun H3 s3 e3 => ?_)
    · refine ⟨_, rfl, _, rfl, _, _, _, _, rfl, rfl, SqL.of (s3 _ _ ha), (atI_gI (h := 0 + (j : Int)) (by omega) (by omega)), _, _, rfl, rfl, _, rfl, ?_⟩
      have ej : (0 + (j : Int)) = (j : Int) := by omega
      rw [ej]
      refine ite2 (fun q => ?_) (fun q => ?_)
      · have q := of_decide_eq_true q
        refine ⟨_, rfl, kF _ H3 (Same.refl _) ?_⟩
        rw [if_pos q, ej]
      · have q : ¬ gI cs (j : Int) > 0 := fun z => q (decide_eq_true z)
        exact kG H3 (Same.refl _) (if_neg q)
    · rw [pos_map] at e3
      have B3 := B0.keep s3
      have nD : D ≠ r := (B0.ne hD).1
      have p8 := pos_len cs
      have k3 : Kp r H H3 := .of_same s3
      refine ⟨_, rfl, D, _, rfl, .inl (SqL.of e3), _, _, rfl, rfl, _, rfl, ?_⟩
      refine ite2 (fun q => ?_) (fun q => ?_)
      · exact kN H3 (by have := of_decide_eq_true q; rw [List.length_map] at this; omega) (B3.mono (by omega)) k3
      · have hp2 : 2 ≤ (pos cs).length := by
          have : ¬ (((pos cs).map V.int).length : Int) < 2 := fun z => q (decide_eq_true z)
          rw [List.length_map] at this
          omega
        -- i, j
        refine ⟨_, rfl, _, rfl, D, _, rfl, .inl (SqL.of e3), r, b, _, n, rfl, B3, by omega, by rw [List.length_map]; omega, by rw [List.length_map]; omega, fun i H4 i0 i1 B4 k4 => ?_⟩
        rw [List.length_map] at i1
        have e4 := k4 _ _ e3 nD
        refine ⟨_, rfl, _, _, rfl, rfl, _, rfl, _, rfl, D, _, rfl, .inl (SqL.of e4), _, _, rfl, rfl, r, b, _, n + 1, rfl, B4, by omega, by show (0 : Int) < (((pos cs).map V.int).length : Int) - 1; rw [List.length_map]; omega, by show (((pos cs).map V.int).length : Int) - 1 < _; rw [List.length_map]; omega, fun z H5 z0 z1 B5 k5 => ?_⟩
        have z1' : z < ((pos cs).length : Int) - 1 := by rw [← List.length_map (f := V.int)]; exact z1
        have e5 := k5 _ _ e4 nD
        refine ⟨_, _, rfl, rfl, _, rfl, D, _, rfl, .inl (SqL.of e5), _, _, rfl, rfl, by rw [List.length_map]; omega, ?_⟩
        have j0 : 0 ≤ (i + 1 + z) % ((pos cs).length : Int) := Int.emod_nonneg _ (by omega)
        have j1 : (i + 1 + z) % ((pos cs).length : Int) < (pos cs).length := Int.emod_lt_of_pos _ (by omega)
        have nij : i ≠ (i + 1 + z) % ((pos cs).length : Int) := by
          by_cases w : i + 1 + z < (pos cs).length
          · rw [Int.emod_eq_of_lt (by omega) w]; omega
          · have : (i + 1 + z) % ((pos cs).length : Int) = i + 1 + z - (pos cs).length := by
              rw [← Int.sub_emod_right, Int.emod_eq_of_lt (by omega) (by omega)]
            omega
        have ej : (fun (i : Int) (j : Int) => V.int (i % j)) (i + 1 + z) (((pos cs).map V.int).length : Int) = V.int ((i + 1 + z) % ((pos cs).length : Int)) := by show V.int _ = _; rw [List.length_map]
        generalize (i + 1 + z) % ((pos cs).length : Int) = j at j0 j1 nij ej
        obtain ⟨hi, ehi, ati, hi0, hi1, hi2⟩ := pos_at i0 i1
        obtain ⟨hj, ehj, atj, hj0, hj1, hj2⟩ := pos_at j0 j1
        have nh : hi ≠ hj := fun z => by
          have nd := List.pairwise_iff_getElem.mp (pos_nodup cs)
          subst z
          obtain ⟨a1, a2⟩ := List.getElem?_eq_some_iff.mp ehi
          obtain ⟨b1, b2⟩ := List.getElem?_eq_some_iff.mp ehj
          rcases Int.lt_or_gt_of_ne nij with w | w
          · exact nd _ _ a1 b1 (by omega) (a2.trans b2.symm)
          · exact nd _ _ b1 a1 (by omega) (b2.trans a2.symm)
        have ha5 := k5 _ _ (k4 _ _ (s3 _ _ ha) nar) nar
        have ghi := ok.gI hi
        have ghj := ok.gI hj
        refine ⟨_, rfl, _, rfl, _, _, _, _, rfl, rfl, SqL.of e5, ati, _, rfl, _, rfl, _, rfl, _, rfl, _, _, _, _, rfl, rfl, SqL.of e5, ati, _, _, _, _, rfl, rfl, SqL.of ha5, atI_gI hi0 hi1, r, b, _, _, rfl, B5, by omega, hi2, by omega, fun u H6 u0 u1 B6 k6 => ?_⟩
        have e6 := k6 _ _ e5 nD
        have ha6 := k6 _ _ ha5 nar
        refine ⟨_, rfl, _, rfl, _, _, _, _, rfl, ej, SqL.of e6, atj, _, rfl, _, rfl, _, rfl, _, rfl, _, _, _, _, rfl, ej, SqL.of e6, atj, _, _, _, _, rfl, rfl, SqL.of ha6, atI_gI hj0 hj1, r, b, _, _, rfl, B6, by omega, hj2, by omega, fun v H7 v0 v1 B7 k7 => ?_⟩
        refine ⟨(by show 4 ≤ sizeLine; decide), fun t ht => ?_⟩
        have st := same_new (o := HO.tup [V.int hi, V.int u, V.int hj, V.int v]) ht
        have kk : Kp r H H7 := (((k3.trans k4).trans k5).trans k6).trans k7
        exact k t (hi, u, hj, v) _ (Kp.new kk ht B7.at) upd_same ⟨⟨hi0, hi1⟩, ⟨u0, u1⟩, ⟨hj0, hj1⟩, ⟨v0, v1⟩, nh⟩ (B7.keep st) (kk.trans (.of_same st))

theorem eqv_nD (x y : Nt) : PyData.eqv (nD x) (nD y) = decide (x = y) := by
  obtain ⟨a, b, c, d⟩ := x
  obtain ⟨a', b', c', d'⟩ := y
  simp only [nD, PyData.eqv, PyData.eqvAll, Bool.and_true]
  by_cases e1 : a = a'
  · subst e1
    by_cases e2 : b = b'
    · subst e2
      by_cases e3 : c = c'
      · subst e3
        by_cases e4 : d = d'
        · subst e4; simp
        · simp [e4]
      · simp [e3]
    · simp [e2]
  · simp [e1]
theorem shaped_nts (ns : List Nt) : SeqAt.shaped (.list (ns.map nD)) = true :=
  shaped_list nD 1 (by decide) (fun _ _ => rfl) (fun _ _ => by show (max 0 (max 0 (max 0 (max 0 0)))) + 1 ≤ 1; decide)
/-- a record at t: its counts at c, its notes at a -/
def RecAt (H : Hp) (t c a : Addr) (cs : List Int) (ns : List Nt) : Prop := H t = some (.tup [.ref c, .ref a]) ∧ H c = some (.lst (cs.map V.int)) ∧ NtsAt H a ns
theorem RecAt.same {H H' : Hp} {t c a : Addr} {cs : List Int} {ns : List Nt} (h : RecAt H t c a cs ns) (k : Same H H') : RecAt H' t c a cs ns := ⟨k _ _ h.1, k _ _ h.2.1, h.2.2.same k⟩
theorem RecAt.kp {H H' : Hp} {t c a r : Addr} {ys : List V} {cs : List Int} {ns : List Nt} (h : RecAt H t c a cs ns) (hr : H r = some (.lst ys)) (k : Kp r H H') (n1 : c ≠ r) (n2 : a ≠ r) : RecAt H' t c a cs ns := ⟨k.tups hr _ _ h.1, k _ _ h.2.1 n1, h.2.2.kp (k.tups hr) k n2⟩
def RecOk (cs : List Int) (ns : List Nt) : Prop := CsOk cs ∧ ns.length ≤ 100 ∧ ∀ x ∈ ns, NtOk cs x

def spRecordD (K : PySem.W.Frag) : Sp := fun vs H Q _ => ∃ (r b : Addr) (n : Nat) (g : Int), vs = [.ref r, .int g] ∧ (g = 0 ∨ g = 1) ∧ BagOk H r b n ∧ n < 137438953472 ∧ ∀ (t c a : Addr) (cs : List Int) (ns : List Nt) (H' : Hp), H t = none → H c = none → H a = none → RecAt H' t c a cs ns → RecOk cs ns → (g = 0 → CsSm cs) → BagOk H' r b (n + 4000) → Kp r H H' → c ≠ a → ns.length ≤ 60 → Q (.ref t) H'
theorem cut4a (a b c d : V) : cutV [a, b, c, d] none (some 2) = [a, b] := cut_take _ 2
theorem cut4b (a b c d : V) : cutV [a, b, c, d] (some 2) none = [c, d] := cut_drop _ 2
theorem part4a {α : Type} (xs : List α) (h : xs.length = 4) : ¬ (HT.sIx xs.length 0 none = 0 ∧ HT.sIx xs.length xs.length (some 2) = xs.length) := by
  rw [h]; decide
theorem part4b {α : Type} (xs : List α) (h : xs.length = 4) : ¬ (HT.sIx xs.length 0 (some 2) = 0 ∧ HT.sIx xs.length xs.length none = xs.length) := by
  rw [h]; decide

theorem nts_ins {H : Hp} {vs : List V} {ns : List Nt} {v : V} {x : Nt} (i : Nat) (d : Dats H vs (ns.map nD)) (dv : Dat H v (nD x)) : Dats H (vs.take i ++ v :: vs.drop i) ((ns.take i ++ x :: ns.drop i).map nD) := by
  rw [List.map_append, List.map_cons, List.map_take, List.map_drop]
  refine Dats.append (d.take i) ?_
  simp only [Dats]
  exact ⟨dv, d.drop i⟩
theorem mem_ins {ns : List Nt} {x y : Nt} {i : Nat} (h : y ∈ ns.take i ++ x :: ns.drop i) : y = x ∨ y ∈ ns := by
  rcases List.mem_append.mp h with h | h
  · exact .inr (List.mem_of_mem_take h)
  · rcases List.mem_cons.mp h with h | h
    · exact .inl h
    · exact .inr (List.mem_of_mem_drop h)
theorem len_ins (ns : List Nt) (x : Nt) (i : Nat) : (ns.take i ++ x :: ns.drop i).length = ns.length + 1 := by
  simp only [List.length_append, List.length_cons, List.length_take, List.length_drop]
  omega
theorem spot_get {kvs : List (List Key × V)} {cs os : List Int} {h k : Int} (S : SpotOk kvs os) (O : OrdOk cs os) (h0 : 0 ≤ h) (h1 : h < cs.length) (k0 : 0 ≤ k) (k1 : k < gI cs h) : ∃ z : Int, valV kvs [Sum.inl h, Sum.inl k] = some (.int z) := by
  have q := O.2 h h0 h1
  obtain ⟨z, e, _⟩ := S h k.toNat (by omega)
  have : ((k.toNat : Nat) : Int) = k := by omega
  rw [this] at e
  exact ⟨(z : Int), e⟩
theorem ok_recordD {f : Addr} {fd : FuncData} (F : Fun K "_law_record" "_law_record" s_Lrecord f fd) (F_Ldraw : FnAt P w K mg base 2 "_law_draw" ["bag", "many"] (spDraw K)) (F_Lcounts : FnAt P w K mg base 3 "_law_counts" ["bag", "great"] (spCounts K)) (F_Lorder : FnAt P w K mg base 3 "_law_order" ["bag", "counts"] (spOrder K)) (F_Lspots : FnAt P w K mg base 1 "_law_spots" ["order"] (spSpots K)) (F_Lnote : FnAt P w K mg base 3 "_law_note" ["bag", "counts"] (spNote K)) (Bt : Blt mg) : FnOk P w K mg base CX0 4 f fd ["bag", "great"] (spRecordD K) := by
  refine F.ok sc_Lrecord (fun vs H Q E h => ?_) (fun cdv A outer s H vs Q E hr h => ?_)
  · obtain ⟨r, b, n, g, rfl, _⟩ := h
    rfl
  · obtain ⟨r, b, n, g, rfl, hg, B0, hn, k⟩ := h
    have hu := hu_of hr
    have hu64 := hr.units
    refine ⟨_, (pss_cons (ps_set (i := 2) sc_Lrecord.nd rfl (Or.inl rfl) (pe_fn F_Ldraw (hr.mono (by decide)) (by rfl) (pa_cons (pv 0) (pa_cons pe_int pa_nil))))
      (pss_cons (ps_set (i := 3) sc_Lrecord.nd rfl (Or.inl rfl) (pe_fn F_Ldraw (hr.mono (by decide)) (by rfl) (pa_cons (pv 0) (pa_cons pe_int pa_nil))))
      (pss_cons (ps_set (i := 4) sc_Lrecord.nd rfl (Or.inl rfl) (pe_fn F_Lcounts (hr.mono (by decide)) (by rfl) (pa_cons (pv 0) (pa_cons (pv 1) pa_nil))))
      (pss_cons (ps_set (i := 5) sc_Lrecord.nd rfl (Or.inl rfl) (pe_fn F_Lspots (hr.mono (by decide)) (by rfl) (pa_cons (pe_fn F_Lorder (hr.mono (by decide)) (by rfl) (pa_cons (pv 0) (pa_cons (pv 4) pa_nil))) pa_nil)))
      (pss_cons (ps_set (i := 6) sc_Lrecord.nd rfl (Or.inl rfl) (pe_lst pa_nil))
      (pss_cons (ps_for PassesOwn.never rfl (pi_range1 (by rfl) Bt.b_range (pa_cons (pe_fn F_Ldraw (hr.mono (by decide)) (by rfl) (pa_cons (pv 0) (pa_cons (pe_ix (ix_listK (K := K) rfl) (pe_lst (pa_cons pe_int (pa_cons pe_int pa_nil))) (pv 1) (fun _ _ => rfl)) pa_nil))) pa_nil)) (pg_name (i := 7) sc_Lrecord.nd rfl (Or.inl rfl))
      (pss_cons (ps_set (i := 8) sc_Lrecord.nd rfl (Or.inl rfl) (pe_fn F_Lnote (hr.mono (by decide)) (by rfl) (pa_cons (pv 0) (pa_cons (pv 4) pa_nil))))
      (pss_cons (ps_set (i := 9) sc_Lrecord.nd rfl (Or.inl rfl) (pe_or (pe_cmpR op_eq (pv 2) pe_int (nomark _)) (pe_one (pe_and (pe_cmpR op_eq (pv 2) pe_int (nomark _)) (pe_one (pe_cmpR op_gt (pe_fn F_Ldraw (hr.mono (by decide)) (by rfl) (pa_cons (pv 0) (pa_cons pe_int pa_nil))) pe_int (nomark _)))))))
      (pss_one (ps_if (pt_cmpR op_notN (pv 8) pe_non (nomark _)) (pss_cons (ps_if (PW.pt (pw_and (pt_val (pv 9)) (pw_and1 (pt_cmpR op_gt (pe_dget hu (pv 5) (pe_slice (sl_tupK (K := K) rfl) (pv 8) po_none (po_some pe_int)) (fun _ _ => rfl)) (pe_dget hu (pv 5) (pe_slice (sl_tupK (K := K) rfl) (pv 8) (po_some pe_int) po_none) (fun _ _ => rfl)) (nomark _))))) (pss_one (ps_set (i := 8) sc_Lrecord.nd rfl (Or.inl rfl) (pe_op (op_catTK (K := K) rfl) (pe_slice (sl_tupK (K := K) rfl) (pv 8) (po_some pe_int) po_none) (pe_slice (sl_tupK (K := K) rfl) (pv 8) po_none (po_some pe_int))))) pss_nil)
      (pss_one (ps_expr (pe_bmK (K := K) rfl PySem.F.plainAttrs_list PySem.F.slot_list_insert PySem.F.type_list_insert mt_insert (pv 6) (pa_cons (pe_fn F_Ldraw (hr.mono (by decide)) (by rfl) (pa_cons (pv 0) (pa_cons (pe_op op_add (pe_callB (call_len_seqK (K := K) rfl) (by rfl) Bt.b_len bt_len (pa_cons (pv 6) pa_nil)) pe_int) pa_nil))) (pa_cons (pv 8) pa_nil)))))) pss_nil)))))
      (pss_cons (ps_if (PW.pt (pw_and (pt_cmpR op_eq (pv 3) pe_int (nomark _)) (pw_and1 (pt_cmpR (op_neDK (K := K) rfl hu64) (pv 6) (pe_lst pa_nil) (nomark _))))) (pss_one (ps_expr (pe_bmK (K := K) rfl PySem.F.plainAttrs_list PySem.F.slot_list_insert PySem.F.type_list_insert mt_insert (pv 6) (pa_cons (pe_fn F_Ldraw (hr.mono (by decide)) (by rfl) (pa_cons (pv 0) (pa_cons (pe_op op_add (pe_callB (call_len_seqK (K := K) rfl) (by rfl) Bt.b_len bt_len (pa_cons (pv 6) pa_nil)) pe_int) pa_nil))) (pa_cons (pe_ix (ix_listK (K := K) rfl) (pv 6) (pe_fn F_Ldraw (hr.mono (by decide)) (by rfl) (pa_cons (pv 0) (pa_cons (pe_callB (call_len_seqK (K := K) rfl) (by rfl) Bt.b_len bt_len (pa_cons (pv 6) pa_nil)) pa_nil))) (fun _ _ => rfl)) pa_nil))))) pss_nil)
      (pss_one (ps_ret (pe_tup (pa_cons (pv 4) (pa_cons (pv 6) pa_nil)))))))))))), ?_⟩
    refine ⟨_, rfl, r, b, 3, n, rfl, B0, by omega, by decide, by decide, fun mode H1 m0 m1 B1 k1 => ?_⟩
    refine ⟨_, rfl, r, b, 3, n + 1, rfl, B1, by omega, by decide, by decide, fun twice H2 w0 w1 B2 k2 => ?_⟩
    refine ⟨_, rfl, _, rfl, r, b, n + 2, g, rfl, hg, B2, by omega, fun c cs H3 hc0 hc ok csm B3 k3 => ?_⟩
    have nc : c ≠ r := (B2.ne hc0).1
    refine ⟨_, rfl, _, rfl, r, b, n + 22, c, cs, rfl, B3, by omega, hc, nc, ok, fun o os H4 ho0 ho oo _ B4 k4 => ?_⟩
    have no : o ≠ r := (B3.ne ho0).1
    refine ⟨o, os, rfl, ho, oo.1, fun d kvs H5 hd0 hd S s5 => ?_⟩
    have nd : d ≠ r := (B4.ne hd0).1
    have hc5 := s5 _ _ (k4 _ _ hc nc)
    have B5 := B4.keep s5
    refine ⟨(by show 0 ≤ sizeLine; decide), fun a ha0 => ?_⟩
    have s6 := same_new (o := HO.lst []) ha0
    have B6 := B5.keep s6
    have na := B5.ne ha0
    have hc6 := s6 _ _ hc5
    have hd6 := s6 _ _ hd
    have nca : c ≠ a := ne_of_none hc5 ha0
    have nda : d ≠ a := ne_of_none hd ha0
    have kA : Kp r H (upd H5 a (.lst [])) := ((((k1.trans k2).trans k3).trans k4).trans (.of_same s5)).trans (.of_same s6)
    have fr_c : H c = none := Kp.new (k1.trans k2) hc0 B2.at
    have fr_a : H a = none := Kp.new ((((k1.trans k2).trans k3).trans k4).trans (.of_same s5)) ha0 B5.at
    -- the number of notes
    refine ⟨_, rfl, (by show 2 ≤ sizeLine; decide), fun p hp => ?_⟩
    have s7 := same_new (o := HO.lst [V.int 13, V.int 41]) hp
    obtain ⟨mx, emx, x0, x1⟩ : ∃ mx : Int, atI [V.int 13, V.int 41] g = some (V.int mx) ∧ 0 < mx ∧ mx ≤ 41 := by
      rcases hg with rfl | rfl
      · exact ⟨13, rfl, by decide, by decide⟩
      · exact ⟨41, rfl, by decide, by decide⟩
    refine ⟨_, rfl, _, _, _, _, rfl, rfl, SqL.of upd_same, emx, r, b, mx, _, rfl, B6.keep s7, by omega, x0, by omega, fun many H8 y0 y1 B8 k8 => ?_⟩
    refine ⟨many, rfl, by omega, by omega, ?_⟩
    have hc8 := k8 _ _ (s7 _ _ hc6) nc
    have hd8 := k8 _ _ (s7 _ _ hd6) nd
    have kB : Kp r H H8 := (kA.trans (.of_same s7)).trans k8
    -- what is put to the notes: a draw, then the insertion
    refine for_range (lo := 0) (n := many.toNat) (fun i σ H9 => ∃ (ns : List Nt) (x1 x2 x3 : Option V), σ = [some (.ref r), some (.int g), some (.int mode), some (.int twice), some (.ref c), some (.ref d), some (.ref a), x1, x2, x3] ∧
        H9 c = some (.lst (cs.map V.int)) ∧ H9 d = some (.dT kvs) ∧ NtsAt H9 a ns ∧ ns.length ≤ i ∧ (∀ x ∈ ns, NtOk cs x) ∧ BagOk H9 r b (n + 2500 + 10 * i) ∧ Kp r H H9)
      ⟨[], none, none, none, rfl, hc8, hd8, ⟨[], k8 _ _ (s7 _ _ upd_same) na.1, by simp only [List.map_nil, Dats]⟩, Nat.le_refl _, (fun x hx => by cases hx), B8.mono (by omega), kB⟩ ?_ ?_
    · rintro i σ H9 hi ⟨ns, v1, v2, v3, rfl, hc9, hd9, N9, nl, nok, B9, k9⟩
      obtain ⟨bl, hbl⟩ := B9.lst
      -- note = _law_note(bag, counts)
      refine seq_cps (fun σ H10 => ∃ (nv : V), σ = [some (.ref r), some (.int g), some (.int mode), some (.int twice), some (.ref c), some (.ref d), some (.ref a), some (.int (0 + i)), some nv, v3] ∧ (nv = .non ∨ ∃ t x, nv = .ref t ∧ H10 t = some (.tup (nV x)) ∧ NtOk cs x) ∧ BagOk H10 r b (n + 2500 + 10 * i + 4) ∧ Kp r H9 H10) (fun D' hD' _ => ?_) ?_
      · exact ⟨_, rfl, _, rfl, r, b, _, c, cs, rfl, B9, by omega, hc9, nc, ok, fun H10 _ B10 k10 => hD' _ _ ⟨_, rfl, .inl rfl, B10, k10⟩, fun t x H10 ht0 ht nx B10 k10 => hD' _ _ ⟨_, rfl, .inr ⟨t, x, rfl, ht, nx⟩, B10, k10⟩⟩
      rintro σ H10 ⟨nv, rfl, hnv, B10, k10⟩
      -- along
      refine seq_cps (fun σ H11 => ∃ (al : Bool), σ = [some (.ref r), some (.int g), some (.int mode), some (.int twice), some (.ref c), some (.ref d), some (.ref a), some (.int (0 + i)), some nv, some (.bl al)] ∧ BagOk H11 r b (n + 2500 + 10 * i + 5) ∧ Kp r H10 H11) (fun D' hD' _ => ?_) ?_
      · refine ⟨_, rfl, rfl, _, rfl, ?_⟩
        refine ite2 (fun _ => ?_) (fun _ => ?_)
        · exact hD' _ _ ⟨true, rfl, B10.mono (by omega), Kp.refl _ _⟩
        · refine ⟨_, rfl, rfl, _, rfl, ?_⟩
          refine ite2 (fun _ => ?_) (fun _ => ?_)
          · exact ⟨_, rfl, r, b, 8, _, rfl, B10, by omega, by decide, by decide, fun z H11 z0 z1 B11 k11 => ⟨_, _, rfl, rfl, hD' _ _ ⟨_, rfl, B11, k11⟩⟩⟩
          · exact hD' _ _ ⟨false, rfl, B10.mono (by omega), Kp.refl _ _⟩
      rintro σ H11 ⟨al, rfl, B11, k11⟩
      have k911 := k10.trans k11
      have tp : ∀ a xs, H9 a = some (HO.tup xs) → H11 a = some (HO.tup xs) := fun a xs h => B10.tups k11 _ _ (B9.tups k10 _ _ h)
      have hc11 := k911 _ _ hc9 nc
      have hd11 := k911 _ _ hd9 nd
      have N11 : NtsAt H11 a ns := N9.kp tp k911 na.1
      have kH11 := k9.trans k911
      refine ⟨_, rfl, rfl, _, rfl, ?_⟩
      rcases hnv with rfl | ⟨t, x, rfl, ht, nx⟩
      · refine ite2 (fun q => absurd q (by simp)) (fun _ => ?_)
        exact ⟨ns, _, _, _, rfl, hc11, hd11, N11, by omega, nok, B11.mono (by omega), kH11⟩
      refine ite2 (fun _ => ?_) (fun q => absurd (by simp) q)
      have ht11 := B10.tups k11 _ _ ht
      -- turned along
      refine seq_cps (fun σ H12 => ∃ (t' : Addr) (x' : Nt), σ = [some (.ref r), some (.int g), some (.int mode), some (.int twice), some (.ref c), some (.ref d), some (.ref a), some (.int (0 + i)), some (.ref t'), some (.bl al)] ∧ H12 t' = some (.tup (nV x')) ∧ NtOk cs x' ∧ Same H11 H12) (fun D' hD' _ => ?_) ?_
      · refine ⟨_, rfl, al, rfl, ?_⟩
        cases al with
        | false => exact iteF (hD' _ _ ⟨t, x, rfl, ht11, nx, Same.refl _⟩)
        | true =>
          refine iteT ?_
          obtain ⟨⟨h0, h1⟩, ⟨k0, k1⟩, ⟨o0, o1⟩, ⟨m0, m1⟩, hne⟩ := id nx
          obtain ⟨z1, e1⟩ := spot_get S oo h0 h1 k0 k1
          obtain ⟨z2, e2⟩ := spot_get S oo o0 o1 m0 m1
          refine ⟨_, rfl, _, rfl, _, rfl, _, _, rfl, SqT.of ht11, part4a _ rfl, fun p1 hp1 => ?_⟩
          have c1 : cutV (nV x) none (some 2) = [.int x.1, .int x.2.1] := cut4a ..
          rw [c1]
          have sp1 := same_new (o := HO.tup [V.int x.1, V.int x.2.1]) hp1
          refine ⟨d, _, rfl, e1 ▸ DGet.t (k := [Sum.inl x.1, Sum.inl x.2.1]) (sp1 _ _ hd11) upd_same, ?_⟩
          have ht12 := sp1 _ _ ht11
          refine ⟨_, rfl, _, rfl, _, rfl, _, _, rfl, SqT.of ht12, part4b _ rfl, fun p2 hp2 => ?_⟩
          have c2 : cutV (nV x) (some 2) none = [.int x.2.2.1, .int x.2.2.2] := cut4b ..
          rw [c2]
          have sp2 := same_new (o := HO.tup [V.int x.2.2.1, V.int x.2.2.2]) hp2
          refine ⟨d, _, rfl, e2 ▸ DGet.t (k := [Sum.inl x.2.2.1, Sum.inl x.2.2.2]) (sp2 _ _ (sp1 _ _ hd11)) upd_same, _, _, rfl, rfl, _, rfl, ?_⟩
          have ht13 := sp2 _ _ ht12
          have s13 := sp1.trans sp2
          refine ite2 (fun _ => ?_) (fun _ => ?_)
          · refine ⟨_, rfl, _, rfl, _, _, rfl, SqT.of ht13, part4b _ rfl, fun p3 hp3 => ?_⟩
            rw [c2]
            have sp3 := same_new (o := HO.tup [V.int x.2.2.1, V.int x.2.2.2]) hp3
            refine ⟨_, rfl, _, rfl, _, _, rfl, SqT.of (sp3 _ _ ht13), part4a _ rfl, fun p4 hp4 => ?_⟩
            rw [c1]
            have sp4 := same_new (o := HO.tup [V.int x.1, V.int x.2.1]) hp4
            refine ⟨_, _, _, _, rfl, rfl, SqT.of (sp4 _ _ upd_same), SqT.of upd_same, by simp, (by show 4 ≤ sizeLine; decide), fun z => by simp at z, fun _ p5 hp5 => ?_⟩
            refine hD' _ _ ⟨p5, (x.2.2.1, x.2.2.2, x.1, x.2.1), rfl, upd_same, ⟨⟨o0, o1⟩, ⟨m0, m1⟩, ⟨h0, h1⟩, ⟨k0, k1⟩, hne.symm⟩, ((s13.trans sp3).trans sp4).trans (same_new hp5)⟩
          · exact hD' _ _ ⟨t, x, rfl, ht13, nx, s13⟩
      rintro σ H12 ⟨t', x', rfl, ht', nx', s12⟩
      have N12 := N11.same s12
      have B12 := B11.keep s12
      obtain ⟨vs, hA, dA⟩ := id N12
      have vl : vs.length = ns.length := by rw [dA.length, List.length_map]
      refine ⟨_, rfl, .inl ⟨rfl, _, SqL.of hA⟩, _, rfl, _, rfl, a, _, rfl, .inl (SqL.of hA), _, _, rfl, rfl, r, b, _, _, rfl, B12, by omega, by omega, by omega, fun z H13 z0 z1 B13 k13 => ?_⟩
      have N13 := N12.kp (B12.tups k13) k13 na.1
      obtain ⟨vs', hA', dA'⟩ := id N13
      have vl' : vs'.length = ns.length := by rw [dA'.length, List.length_map]
      refine ⟨_, rfl, a, vs', z, _, rfl, rfl, hA', z0, by omega, by rw [sizeLine_eq]; omega, ?_⟩
      have kA14 : Kp a H13 (upd H13 a (.lst (vs'.take z.toNat ++ V.ref t' :: vs'.drop z.toNat))) := Kp.set
      have tp14 := kA14.tups hA'
      refine ⟨ns.take z.toNat ++ x' :: ns.drop z.toNat, _, _, _, rfl, kA14 _ _ (k13 _ _ (s12 _ _ hc11) nc) nca, kA14 _ _ (k13 _ _ (s12 _ _ hd11) nd) nda, ⟨_, upd_same, ?_⟩, by rw [len_ins]; omega, fun y hy => ?_, (B13.kp kA14 na.1.symm na.2.symm).mono (by omega), ?_⟩
      · refine nts_ins _ (Dats.keep tp14 _ (imms_map _ imm_nD ns) dA') (dat_nt (tp14 _ _ (B12.tups k13 _ _ ht')))
      · rcases mem_ins hy with rfl | hy
        · exact nx'
        · exact nok y hy
      · intro q u e nq
        have : q ≠ a := ne_of_none e fr_a
        exact kA14 _ _ (k13 _ _ (s12 _ _ (kH11 _ _ e nq)) nq) this
    · rintro σ H9 ⟨ns, v1, v2, v3, rfl, hc9, hd9, N9, nl, nok, B9, k9⟩
      have fin : ∀ (ms : List Nt) (H : Hp), True := fun _ _ => trivial
      -- twice
      dsimp only
      refine seq_cps (fun σ H10 => ∃ (ms : List Nt), σ = [some (.ref r), some (.int g), some (.int mode), some (.int twice), some (.ref c), some (.ref d), some (.ref a), v1, v2, v3] ∧ H10 c = some (.lst (cs.map V.int)) ∧ NtsAt H10 a ms ∧ ms.length ≤ 50 ∧ (∀ x ∈ ms, NtOk cs x) ∧ BagOk H10 r b (n + 3500) ∧ Kp r H H10) (fun D' hD' _ => ?_) ?_
      · have same : D'.nx [some (.ref r), some (.int g), some (.int mode), some (.int twice), some (.ref c), some (.ref d), some (.ref a), v1, v2, v3] H9 := hD' _ _ ⟨ns, rfl, hc9, N9, by omega, nok, B9.mono (by omega), k9⟩
        refine ⟨_, rfl, rfl, _, rfl, ?_⟩
        refine ite2 (fun _ => ?_) (fun _ => same)
        obtain ⟨vs, hA, dA⟩ := id N9
        have vl : vs.length = ns.length := by rw [dA.length, List.length_map]
        refine ⟨_, rfl, (by show 0 ≤ sizeLine; decide), fun p1 hp1 => ?_⟩
        have sp1 := same_new (o := HO.lst []) hp1
        have N10 := N9.same sp1
        obtain ⟨vs1, hA1, dA1⟩ := id N10
        refine ⟨_, _, dat_list hA1 dA1, dat_list (ds := ([] : List Nt).map nD) upd_same (by simp only [List.map_nil, Dats]), shaped_nts ns, shaped_nts [], _, rfl, ?_⟩
        rw [if_pos rfl, eqv_list nD eqv_nD]
        have vl1 : vs1.length = ns.length := by rw [dA1.length, List.length_map]
        by_cases e0 : ns = []
        · subst e0
          refine ite2 (fun q => absurd q (by simp)) (fun _ => ?_)
          exact hD' _ _ ⟨[], rfl, sp1 _ _ hc9, N10, by simp, nok, (B9.keep sp1).mono (by omega), k9.trans (.of_same sp1)⟩
        refine ite2 (fun _ => ?_) (fun q => absurd (by simp [e0]) q)
        have npos : 0 < ns.length := List.length_pos_iff.mpr e0
        have B10 := B9.keep sp1
        have hc10 := sp1 _ _ hc9
        refine ⟨_, rfl, .inl ⟨rfl, _, SqL.of hA1⟩, _, rfl, _, rfl, a, _, rfl, .inl (SqL.of hA1), _, _, rfl, rfl, r, b, _, _, rfl, B10, by omega, by omega, by omega, fun z H11 z0 z1 B11 k11 => ?_⟩
        have N11 := N10.kp (B10.tups k11) k11 na.1
        obtain ⟨vs2, hA2, dA2⟩ := id N11
        have vl2 : vs2.length = ns.length := by rw [dA2.length, List.length_map]
        refine ⟨_, rfl, _, rfl, _, rfl, a, _, rfl, .inl (SqL.of hA2), r, b, _, _, rfl, B11, by omega, by omega, by omega, fun u H12 u0 u1 B12 k12 => ?_⟩
        have N12 := N11.kp (B11.tups k12) k12 na.1
        obtain ⟨vs3, hA3, dA3⟩ := id N12
        have vl3 : vs3.length = ns.length := by rw [dA3.length, List.length_map]
        obtain ⟨um, rfl⟩ := Int.eq_ofNat_of_zero_le u0
        have hum : um < vs3.length := by omega
        obtain ⟨x, t, ex, ev, ht⟩ := nts_get dA3 (i := um) (v := vs3[um]) (by simp [hum])
        refine ⟨_, _, _, _, rfl, rfl, SqL.of hA3, atI_nat (v := vs3[um]) (by simp [hum]), a, vs3, z, _, rfl, rfl, hA3, z0, by omega, by rw [sizeLine_eq]; omega, ?_⟩
        have kA14 : Kp a H12 (upd H12 a (.lst (vs3.take z.toNat ++ vs3[um] :: vs3.drop z.toNat))) := Kp.set
        have tp14 := kA14.tups hA3
        refine hD' _ _ ⟨ns.take z.toNat ++ x :: ns.drop z.toNat, rfl, kA14 _ _ (k12 _ _ (k11 _ _ hc10 nc) nc) nca, ⟨_, upd_same, ?_⟩, by rw [len_ins]; omega, fun y hy => ?_, (B12.kp kA14 na.1.symm na.2.symm).mono (by omega), ?_⟩
        · refine nts_ins _ (Dats.keep tp14 _ (imms_map _ imm_nD ns) dA3) ?_
          exact Eq.mpr (congrArg (fun v => Dat (upd H12 a (.lst (vs3.take z.toNat ++ vs3[um] :: vs3.drop z.toNat))) v (nD x)) ev) (dat_nt (tp14 _ _ ht))
        · rcases mem_ins hy with rfl | hy
          · exact nok y (List.mem_of_getElem? ex)
          · exact nok y hy
        · intro q w e nq
          have : q ≠ a := ne_of_none e fr_a
          exact kA14 _ _ (k12 _ _ (k11 _ _ (sp1 _ _ (k9 _ _ e nq)) nq) nq) this
      rintro σ H10 ⟨ms, rfl, hc10, N10, ml, mok, B10, k10⟩
      refine ⟨_, rfl, _, rfl, (by show 2 ≤ sizeLine; decide), fun t ht => ?_⟩
      have st := same_new (o := HO.tup [V.ref c, V.ref a]) ht
      exact k t c a cs ms _ (Kp.new k10 ht B10.at) fr_c fr_a ⟨upd_same, st _ _ hc10, N10.same st⟩ ⟨ok, by omega, mok⟩ csm ((B10.keep st).mono (by omega)) (k10.trans (.of_same st)) nca (by omega)
/-! ### whole numbers -/
def inP (i : Int) (n : Nat) : Prop := 0 ≤ i ∧ i < (n : Int)
instance (i : Int) (n : Nat) : Decidable (inP i n) := inferInstanceAs (Decidable (_ ∧ _))
def spWh (K : PySem.W.Frag) : Sp := fun vs H Q _ => ∃ i : Int, vs = [.int i] ∧ Q (.bl true) H
theorem ok_is_whole {f : Addr} {fd : FuncData} (F : Fun K "is_whole" "is_whole" s_is_whole f fd) (Bt : Blt mg) : FnOk P w K mg base CX0 1 f fd ["value"] (spWh K) := by
  refine F.ok sc_is_whole (fun vs H Q E h => ?_) (fun cdv A outer s H vs Q E hr h => ?_)
  · obtain ⟨i, rfl, _⟩ := h
    rfl
  · obtain ⟨i, rfl, k⟩ := h
    refine ⟨_, (pss_one (ps_ret (pe_and (pe_callB (call_isiK (K := K) (cv := .ty "int") (c := .type "int") rfl rfl) (by rfl) Bt.b_isinstance bt_isinstance (pa_cons (pv 0) (pa_cons (pe_bltn (v := .ty "int") (by rfl) Bt.b_int bt_int rfl) pa_nil))) (pe_one (pe_not (pe_callB (call_isiK (K := K) (cv := .ty "bool") (c := .type "bool") rfl rfl) (by rfl) Bt.b_isinstance bt_isinstance (pa_cons (pv 0) (pa_cons (pe_bltn (v := .ty "bool") (by rfl) Bt.b_bool bt_bool rfl) pa_nil)))))))), ?_⟩
    refine ⟨_, rfl, _, _, true, rfl, .int i, isi_int_int K, true, rfl, ?_⟩
    refine iteT ?_
    exact ⟨_, rfl, _, _, false, rfl, .int i, isi_int_bool K, false, rfl, k⟩
def spBelow (K : PySem.W.Frag) : Sp := fun vs H Q _ => ∃ (i : Int) (n : Nat), vs = [.int i, .int n] ∧ Q (.bl (decide (inP i n))) H
theorem ok_is_below {f : Addr} {fd : FuncData} (F : Fun K "is_below" "is_below" s_is_below f fd) (F_is_whole : FnAt P w K mg base 1 "is_whole" ["value"] (spWh K)) : FnOk P w K mg base CX0 2 f fd ["value", "count"] (spBelow K) := by
  refine F.ok sc_is_below (fun vs H Q E h => ?_) (fun cdv A outer s H vs Q E hr h => ?_)
  · obtain ⟨i, n, rfl, _⟩ := h
    rfl
  · obtain ⟨i, n, rfl, k⟩ := h
    refine ⟨_, (pss_one (ps_ret (pe_and (pe_fn F_is_whole (hr.mono (by decide)) (by rfl) (pa_cons (pv 0) pa_nil)) (pe_one (pe_chain op_le op_lt pe_int (pv 0) (pv 1)))))), ?_⟩
    refine ⟨_, rfl, i, rfl, true, rfl, ?_⟩
    refine iteT ?_
    refine ⟨_, rfl, _, _, rfl, rfl, _, rfl, ?_⟩
    refine ite2 (fun h0 => ?_) (fun h0 => ?_)
    · refine ⟨_, rfl, _, _, rfl, rfl, ?_⟩
      have e : decide (inP i n) = decide (i < (n : Int)) := by
        have h0 := of_decide_eq_true h0
        rw [Bool.eq_iff_iff, decide_eq_true_iff, decide_eq_true_iff]
        exact ⟨fun z => z.2, fun z => ⟨h0, z⟩⟩
      show Q (.bl (decide (i < (n : Int)))) H
      rw [← e]
      exact k
    · have e : decide (inP i n) = false := decide_eq_false fun z => h0 (decide_eq_true z.1)
      rw [← e]
      exact k

/-! ### cuts -/
def spIsNote (K : PySem.W.Frag) : Sp := fun vs H Q _ => ∃ (t : Addr) (x : Nt), vs = [.ref t] ∧ H t = some (.tup (nV x)) ∧ ∀ H', Same H H' → Q (.bl (!decide (x.1 = x.2.2.1))) H'
theorem ok_is_note {f : Addr} {fd : FuncData} (F : Fun K "is_note" "is_note" s_is_note f fd) (F_is_whole : FnAt P w K mg base 1 "is_whole" ["value"] (spWh K)) (Bt : Blt mg) : FnOk P w K mg base CX0 2 f fd ["value"] (spIsNote K) := by
  refine F.ok sc_is_note (fun vs H Q E h => ?_) (fun cdv A outer s H vs Q E hr h => ?_)
  · obtain ⟨t, x, rfl, _⟩ := h
    rfl
  · obtain ⟨t, x, rfl, ht, k⟩ := h
    have hu64 := hr.units
    refine ⟨_, (pss_cons (ps_if (PW.pt (pw_or (pt_not (pt_val (pe_callB (call_isiK (K := K) (cv := .ty "tuple") (c := .type "tuple") rfl rfl) (by rfl) Bt.b_isinstance bt_isinstance (pa_cons (pv 0) (pa_cons (pe_bltn (v := .ty "tuple") (by rfl) Bt.b_tuple bt_tuple rfl) pa_nil))))) (pw_or1 (pt_cmpR op_ne (pe_callB (call_len_seqK (K := K) rfl) (by rfl) Bt.b_len bt_len (pa_cons (pv 0) pa_nil)) pe_int (nomark _))))) (pss_one (ps_ret pe_bl)) pss_nil)
      (pss_one (ps_ret (pe_and (pe_callB (call_all_boolsK (K := K) rfl rfl) (by rfl) Bt.b_all bt_all (pa_cons (pe_comp rfl (N := ["number"]) (own := ["number"]) (caps := []) (CompScope.of (by kernel_rfl)) (pi_tupK (K := K) rfl (pv 0)) (fun _ _ _ _ => (pg_name (i := 0) (show List.Nodup (["number"] : List Str) by decide +kernel) rfl (Or.inl rfl))) (fun _ _ _ _ => pts_nil) (fun _ _ _ _ => (pe_fn F_is_whole (hr.mono (by decide)) (by rfl) (pa_cons (pv 0) pa_nil)))) pa_nil)) (pe_one (pe_cmpR op_ne (pe_ix (ix_tupK (K := K) rfl) (pv 0) pe_int (fun _ _ => rfl)) (pe_ix (ix_tupK (K := K) rfl) (pv 0) pe_int (fun _ _ => rfl)) (nomark _))))))), ?_⟩
    refine ⟨_, rfl, _, _, true, rfl, .tup ht, isi_tuple_tuple K, true, rfl, ?_⟩
    refine iteF ?_
    refine ⟨_, rfl, t, _, rfl, .inr (SqT.of ht), rfl, _, rfl, ?_⟩
    refine iteNS (by rfl) ?_
    refine ⟨_, rfl, t, rfl, ⟨_, SqT.of ht⟩, fun D hD => ?_⟩
    refine comp_valT (K := K) (fun i => some (.bl true)) hD ht (by show 4 ≤ 100000; decide) (fun i v H2 G F hi s2 kG kF => ?_) (fun H2 s2 e2 => ?_)
    · obtain ⟨z, rfl⟩ : ∃ z, v = V.int z := by
        have hm := List.mem_of_getElem? hi
        simp only [nV, List.mem_cons, List.not_mem_nil, or_false] at hm
        rcases hm with rfl | rfl | rfl | rfl <;> exact ⟨_, rfl⟩
      exact ⟨_, rfl, z, rfl, kF _ H2 (Same.refl _) rfl⟩
    · refine ⟨D, [true, true, true, true], rfl, SqL.of e2, true, rfl, ?_⟩
      refine iteT ?_
      refine ⟨_, rfl, _, _, _, _, rfl, rfl, SqT.of (s2 _ _ ht), rfl, _, rfl, _, _, _, _, rfl, rfl, SqT.of (s2 _ _ ht), rfl, rfl, ?_⟩
      have e : (!decide (V.int x.1 = V.int x.2.2.1)) = (!decide (x.1 = x.2.2.1)) := by
        by_cases q : x.1 = x.2.2.1
        · simp [q]
        · simp [q]
      show Q (.bl (!decide (V.int x.1 = V.int x.2.2.1))) H2
      rw [e]
      exact k H2 s2
def spBetween (K : PySem.W.Frag) : Sp := fun vs H Q _ => ∃ (c t : Addr) (cs : List Int) (x : Nt), vs = [.ref c, .ref t] ∧ H c = some (.lst (cs.map V.int)) ∧ H t = some (.tup (nV x)) ∧ NtOk cs x ∧ CsOk cs ∧ ∀ H', Same H H' → Q (.bl true) H'
theorem ok_is_between {f : Addr} {fd : FuncData} (F : Fun K "is_between" "is_between" s_is_between f fd) (F_is_below : FnAt P w K mg base 2 "is_below" ["value", "count"] (spBelow K)) (F_is_note : FnAt P w K mg base 2 "is_note" ["value"] (spIsNote K)) (Bt : Blt mg) : FnOk P w K mg base CX0 3 f fd ["counts", "note"] (spBetween K) := by
  refine F.ok sc_is_between (fun vs H Q E h => ?_) (fun cdv A outer s H vs Q E hr h => ?_)
  · obtain ⟨c, t, cs, x, rfl, _⟩ := h
    rfl
  · obtain ⟨c, t, cs, x, rfl, hc, ht, ok, cok, k⟩ := h
    have hu64 := hr.units
    obtain ⟨⟨h0, h1⟩, ⟨k0, k1⟩, ⟨o0, o1⟩, ⟨m0, m1⟩, hne⟩ := id ok
    refine ⟨_, (pss_cons (ps_if (PW.pt (pw_or (pt_not (pt_val (pe_fn F_is_note (hr.mono (by decide)) (by rfl) (pa_cons (pv 1) pa_nil)))) (pw_or (pt_not (pt_val (pe_fn F_is_below (hr.mono (by decide)) (by rfl) (pa_cons (pe_ix (ix_tupK (K := K) rfl) (pv 1) pe_int (fun _ _ => rfl)) (pa_cons (pe_callB (call_len_seqK (K := K) rfl) (by rfl) Bt.b_len bt_len (pa_cons (pv 0) pa_nil)) pa_nil))))) (pw_or1 (pt_not (pt_val (pe_fn F_is_below (hr.mono (by decide)) (by rfl) (pa_cons (pe_ix (ix_tupK (K := K) rfl) (pv 1) pe_int (fun _ _ => rfl)) (pa_cons (pe_callB (call_len_seqK (K := K) rfl) (by rfl) Bt.b_len bt_len (pa_cons (pv 0) pa_nil)) pa_nil))))))))) (pss_one (ps_ret pe_bl)) pss_nil)
      (pss_one (ps_ret (pe_and (pe_fn F_is_below (hr.mono (by decide)) (by rfl) (pa_cons (pe_ix (ix_tupK (K := K) rfl) (pv 1) pe_int (fun _ _ => rfl)) (pa_cons (pe_ix (ix_listK (K := K) rfl) (pv 0) (pe_ix (ix_tupK (K := K) rfl) (pv 1) pe_int (fun _ _ => rfl)) (fun _ _ => rfl)) pa_nil))) (pe_one (pe_fn F_is_below (hr.mono (by decide)) (by rfl) (pa_cons (pe_ix (ix_tupK (K := K) rfl) (pv 1) pe_int (fun _ _ => rfl)) (pa_cons (pe_ix (ix_listK (K := K) rfl) (pv 0) (pe_ix (ix_tupK (K := K) rfl) (pv 1) pe_int (fun _ _ => rfl)) (fun _ _ => rfl)) pa_nil)))))))), ?_⟩
    refine ⟨_, rfl, t, x, rfl, ht, fun H1 s1 => ⟨_, rfl, ?_⟩⟩
    rw [show (!decide (x.1 = x.2.2.1)) = true by simp [hne]]
    refine iteF ?_
    have hc1 := s1 _ _ hc
    have ht1 := s1 _ _ ht
    refine ⟨_, rfl, _, _, _, _, rfl, rfl, SqT.of ht1, rfl, _, rfl, c, _, rfl, .inl (SqL.of hc1), _, _, rfl, _, rfl, ?_⟩
    rw [show decide (inP x.1 (cs.map V.int).length) = true by rw [List.length_map]; simp [inP, h0, h1]]
    refine iteF ?_
    refine ⟨_, rfl, _, _, _, _, rfl, rfl, SqT.of ht1, rfl, _, rfl, c, _, rfl, .inl (SqL.of hc1), _, _, rfl, _, rfl, ?_⟩
    rw [show decide (inP x.2.2.1 (cs.map V.int).length) = true by rw [List.length_map]; simp [inP, o0, o1]]
    refine iteF ?_
    have g1 := (cok.gI x.1).1
    have g2 := (cok.gI x.2.2.1).1
    have e1 : gI cs x.1 = ((gI cs x.1).toNat : Int) := by omega
    have e2 : gI cs x.2.2.1 = ((gI cs x.2.2.1).toNat : Int) := by omega
    refine ⟨_, rfl, _, _, _, _, rfl, rfl, SqT.of ht1, rfl, _, rfl, _, rfl, _, _, _, _, rfl, rfl, SqT.of ht1, rfl, _, _, _, _, rfl, rfl, SqL.of hc1, atI_gI h0 h1, x.2.1, (gI cs x.1).toNat, by rw [← e1]; rfl, _, rfl, ?_⟩
    rw [decide_eq_true (show inP x.2.1 (gI cs x.1).toNat from ⟨k0, by omega⟩)]
    refine iteT ?_
    refine ⟨_, rfl, _, _, _, _, rfl, rfl, SqT.of ht1, rfl, _, rfl, _, rfl, _, _, _, _, rfl, rfl, SqT.of ht1, rfl, _, _, _, _, rfl, rfl, SqL.of hc1, atI_gI o0 o1, x.2.2.2, (gI cs x.2.2.1).toNat, by rw [← e2]; rfl, ?_⟩
    rw [decide_eq_true (show inP x.2.2.2 (gI cs x.2.2.1).toNat from ⟨m0, by omega⟩)]
    exact k H1 s1
def spCheckN (K : PySem.W.Frag) : Sp := fun vs H Q _ => ∃ (t c a : Addr) (cs : List Int) (ns : List Nt), vs = [.ref t] ∧ RecAt H t c a cs ns ∧ RecOk cs ns ∧ ∀ H', Same H H' → Q .non H'
theorem fm_const (n : Nat) (v : V) : (List.range n).filterMap (fun _ => some v) = List.replicate n v := by
  induction n with
  | zero => rfl
  | succ n ih => rw [fm_succ, ih, List.replicate_succ']; rfl
theorem ok_check_notes {f : Addr} {fd : FuncData} (F : Fun K "check_notes" "check_notes" s_check_notes f fd) (F_is_between : FnAt P w K mg base 3 "is_between" ["counts", "note"] (spBetween K)) (Bt : Blt mg) : FnOk P w K mg base CX0 4 f fd ["record"] (spCheckN K) := by
  refine F.ok sc_check_notes (fun vs H Q E h => ?_) (fun cdv A outer s H vs Q E hr h => ?_)
  · obtain ⟨t, c, a, cs, ns, rfl, _⟩ := h
    rfl
  · obtain ⟨t, c, a, cs, ns, rfl, ⟨ht, hc, hN⟩, ok, k⟩ := h
    have hu64 := hr.units
    obtain ⟨vs, ha, dv⟩ := id hN
    have vl : vs.length = ns.length := by rw [dv.length, List.length_map]
    have nl := ok.2.1
    refine ⟨_, (pss_one (ps_if (pt_not (pt_val (pe_callB (call_all_boolsK (K := K) rfl rfl) (by rfl) Bt.b_all bt_all (pa_cons (pe_comp rfl (N := ["note", "record"]) (own := ["note"]) (caps := [0]) (CompScope.of (by kernel_rfl)) (pi_listK (K := K) rfl (pe_ix (ix_tupK (K := K) rfl) (pv 0) pe_int (fun _ _ => rfl))) (fun _ _ _ _ => (pg_name (i := 0) (show List.Nodup (["note", "record"] : List Str) by decide +kernel) rfl (Or.inl rfl))) (fun _ _ _ _ => pts_nil) (fun _ _ _ _ => (pe_fn F_is_between (hr.mono (by decide)) (by rfl) (pa_cons (pe_ix (ix_tupK (K := K) rfl) (pv 1) pe_int (fun _ _ => rfl)) (pa_cons (pv 0) pa_nil))))) pa_nil)))) (pss_one ps_never) pss_nil)), ?_⟩
    refine ⟨_, rfl, _, _, _, _, rfl, rfl, SqT.of ht, rfl, a, rfl, ⟨_, SqL.of ha⟩, fun D hD => ?_⟩
    refine comp_val (K := K) (fun i => some (.bl true)) hD (SqL.of ha) (by omega) (fun i v H2 G F hi s2 kG kF => ?_) (fun H2 s2 e2 => ?_)
    · obtain ⟨x, q, ex, rfl, hx⟩ := nts_get dv hi
      exact ⟨_, rfl, _, _, _, _, rfl, rfl, SqT.of (s2 _ _ ht), rfl, _, rfl, c, q, cs, x, rfl, s2 _ _ hc, s2 _ _ hx, ok.2.2 x (List.mem_of_getElem? ex), ok.1, fun H3 s3 => kF _ H3 s3 rfl⟩
    · rw [fm_const] at e2
      refine ⟨D, List.replicate vs.length true, rfl, SqL.of (by rw [e2, List.map_replicate]), _, rfl, ?_⟩
      rw [show (List.replicate vs.length true).all id = true by simp]
      refine iteF ?_
      exact k H2 s2
def DoneOk (cs ds : List Int) : Prop := ds.length = cs.length ∧ ∀ i : Int, 0 ≤ i → i < cs.length → 0 ≤ gI ds i ∧ gI ds i ≤ gI cs i

/-! ### copies, data of a record -/
theorem eqv_int (x y : Int) : PyData.eqv (.int x) (.int y) = decide (x = y) := by
  simp only [PyData.eqv]
  rw [Bool.eq_iff_iff]
  simp
theorem dat_ints {H : Hp} {a : Addr} {ns : List Int} (h : H a = some (.lst (ns.map V.int))) : Dat H (.ref a) (.list (ns.map PyData.int)) := dat_list h (Dats.ints ns)
theorem shaped_ints (ns : List Int) : SeqAt.shaped (.list (ns.map PyData.int)) = true := shaped_list PyData.int 0 (by decide) (fun _ _ => rfl) (fun _ _ => by show 0 ≤ 0; decide)
/-! ### pairs -/
abbrev Prs := Int × Int
def pD (x : Prs) : PyData := .tuple [.int x.1, .int x.2]
theorem imm_pD (x : Prs) : imm (pD x) = true := rfl
theorem dat_prs {H : Hp} {t : Addr} {x : Prs} (h : H t = some (.tup [.int x.1, .int x.2])) : Dat H (.ref t) (pD x) := by
  simp only [pD, Dat]
  exact ⟨t, _, rfl, h, by simp only [Dats, Dat, and_self]⟩
theorem dat_prs_inv {H : Hp} {v : V} {x : Prs} (h : Dat H v (pD x)) : ∃ t, v = .ref t ∧ H t = some (.tup [.int x.1, .int x.2]) := by
  simp only [pD, Dat] at h
  obtain ⟨t, vs, e, q, d⟩ := h
  match vs, d with
  | [a, b], d =>
    simp only [Dats, Dat, and_true] at d
    obtain ⟨rfl, rfl⟩ := d
    exact ⟨t, e, q⟩
  | [], d => simp only [Dats] at d
  | [_], d => simp only [Dats, and_false] at d
  | _ :: _ :: _ :: _, d => simp only [Dats, and_false] at d
def PrsAt (H : Hp) (a : Addr) (ps : List Prs) : Prop := ∃ vs, H a = some (.lst vs) ∧ Dats H vs (ps.map pD)
theorem PrsAt.same {H H' : Hp} {a : Addr} {ws : List Prs} (h : PrsAt H a ws) (k : Same H H') : PrsAt H' a ws := by
  obtain ⟨vs, e, d⟩ := h
  exact ⟨vs, k _ _ e, Dats.keep k.tups _ (imms_map _ imm_pD ws) d⟩
theorem prs_get {H : Hp} {vs : List V} {ps : List Prs} {i : Nat} {v : V} (d : Dats H vs (ps.map pD)) (e : vs[i]? = some v) : ∃ x t, ps[i]? = some x ∧ v = .ref t ∧ H t = some (.tup [.int x.1, .int x.2]) := by
  obtain ⟨q, eq, dq⟩ := d.get e
  rw [List.getElem?_map] at eq
  cases ex : ps[i]? with
  | none => rw [ex] at eq; cases eq
  | some x =>
    rw [ex] at eq
    cases eq
    obtain ⟨t, rfl, ht⟩ := dat_prs_inv dq
    exact ⟨x, t, rfl, rfl, ht⟩

/-! ### numbers done -/
def leL (n : Nat) (ds es : List Int) : Prop := ∀ i : Int, 0 ≤ i → i < n → gI ds i ≤ gI es i
theorem leL.refl (n : Nat) (ds : List Int) : leL n ds ds := fun _ _ _ => Int.le_refl _
theorem leL.eq {n : Nat} {ds es : List Int} (h1 : ds.length = n) (h2 : es.length = n) (a : leL n ds es) (b : leL n es ds) : ds = es := by
  refine List.ext_getElem (by omega) fun i hi hi' => ?_
  have q1 := a (i : Int) (by omega) (by omega)
  have q2 := b (i : Int) (by omega) (by omega)
  rw [gI_nat (cs := ds) (i := i) (c := ds[i]) (by simp [hi]), gI_nat (cs := es) (i := i) (c := es[i]) (by simp [hi'])] at q1 q2
  omega
theorem sum_le_of : ∀ {xs ys : List Int}, xs.length = ys.length → (∀ i : Nat, i < xs.length → gI xs (i : Int) ≤ gI ys (i : Int)) → xs.sum ≤ ys.sum
  | [], [], _, _ => by simp
  | [], _ :: _, h, _ => by simp at h
  | _ :: _, [], h, _ => by simp at h
  | x :: xs, y :: ys, h, q => by
    have q0 := q 0 (by simp)
    have ih := sum_le_of (xs := xs) (ys := ys) (by simpa using h) fun i hi => by
      have := q (i + 1) (by simp; omega)
      simpa [gI] using this
    simp [gI] at q0
    rw [List.sum_cons, List.sum_cons]
    omega
theorem DoneOk.sum {cs es : List Int} (h : DoneOk cs es) : 0 ≤ es.sum ∧ es.sum ≤ cs.sum := by
  constructor
  · have : (List.replicate es.length (0 : Int)).sum ≤ es.sum := sum_le_of (by simp) fun i hi => by
      have hi' : i < es.length := by simpa using hi
      have := (h.2 (i : Int) (by omega) (by rw [← h.1]; omega)).1
      simpa [gI, hi'] using this
    have z : (List.replicate es.length (0 : Int)).sum = 0 := by
      clear this h
      induction es.length with
      | zero => rfl
      | succ n ih => rw [List.replicate_succ, List.sum_cons, ih]; rfl
    omega
  · exact sum_le_of h.1 fun i hi => (h.2 (i : Int) (by omega) (by rw [← h.1]; omega)).2
theorem DoneOk.set {cs ds : List Int} {h v : Int} (d : DoneOk cs ds) (h0 : 0 ≤ h) (h1 : h < cs.length) (v0 : 0 ≤ v) (v1 : v ≤ gI cs h) : DoneOk cs (ds.set h.toNat v) := by
  refine ⟨by rw [List.length_set]; exact d.1, fun i i0 i1 => ?_⟩
  rw [gI_set h0 (by rw [d.1]; exact h1) i0]
  by_cases e : i = h
  · subst e; rw [if_pos rfl]; exact ⟨v0, v1⟩
  · rw [if_neg e]; exact d.2 i i0 i1
theorem gI_sum {ds : List Int} {h v : Int} (h0 : 0 ≤ h) (h1 : h < ds.length) : (ds.set h.toNat v).sum = ds.sum - gI ds h + v := by
  have : h.toNat < ds.length := by omega
  exact sum_set (by simp [gI, this]) v

/-! ### orders -/
def ft (x : Nt) : Prs := (x.1, x.2.1)
def firstsOf (ns : List Nt) (o m : Int) : List Prs := (ns.filter fun x => decide (x.2.2.1 = o) && decide (x.2.2.2 = m)).map ft
theorem firstsOf_snoc (ns : List Nt) (x : Nt) (o m : Int) : firstsOf (ns ++ [x]) o m = firstsOf ns o m ++ (if x.2.2.1 = o ∧ x.2.2.2 = m then [ft x] else []) := by
  unfold firstsOf
  rw [List.filter_append, List.map_append]
  congr 1
  by_cases e : x.2.2.1 = o ∧ x.2.2.2 = m
  · simp [e.1, e.2]
  · rw [if_neg e]
    by_cases e1 : x.2.2.1 = o
    · have e2 : ¬ x.2.2.2 = m := fun z => e ⟨e1, z⟩
      simp [e2]
    · simp [e1]
def FirstsAt (H : Hp) (f : Addr) (ns : List Nt) : Prop := ∃ kvs, H f = some (.dT kvs) ∧ ∀ o m : Int, (valV kvs [Sum.inl o, Sum.inl m] = none ∧ firstsOf ns o m = []) ∨ ∃ l, valV kvs [Sum.inl o, Sum.inl m] = some (.ref l) ∧ PrsAt H l (firstsOf ns o m)
theorem FirstsAt.same {H H' : Hp} {f : Addr} {ns : List Nt} (h : FirstsAt H f ns) (k : Same H H') : FirstsAt H' f ns := by
  obtain ⟨kvs, e, q⟩ := h
  refine ⟨kvs, k _ _ e, fun o m => ?_⟩
  rcases q o m with z | ⟨l, e1, e2⟩
  · exact .inl z
  · exact .inr ⟨l, e1, e2.same k⟩
def spFirsts (K : PySem.W.Frag) : Sp := fun vs H Q _ => ∃ (t c a : Addr) (cs : List Int) (ns : List Nt), vs = [.ref t] ∧ RecAt H t c a cs ns ∧ RecOk cs ns ∧ ∀ (f : Addr) (H' : Hp), H f = none → FirstsAt H' f ns → Same H H' → Q (.ref f) H'
theorem ok_firsts {f : Addr} {fd : FuncData} (F : Fun K "firsts_of" "firsts_of" s_firsts_of f fd) : FnOk P w K mg base CX0 1 f fd ["record"] (spFirsts K) := by
  refine F.ok sc_firsts_of (fun vs H Q E h => ?_) (fun cdv A outer s H vs Q E hr h => ?_)
  · obtain ⟨t, c, a, cs, ns, rfl, _⟩ := h
    rfl
  · obtain ⟨t, c, a, cs, ns, rfl, R, ok, k⟩ := h
    have hu := hu_of hr
    obtain ⟨ht, hc, nvs, ha, dn⟩ := id R
    have nvl : nvs.length = ns.length := by rw [dn.length, List.length_map]
    have nl := ok.2.1
    refine ⟨_, (pss_cons (ps_set (i := 1) sc_firsts_of.nd rfl (Or.inl rfl) pe_dnewT)
      (pss_cons (ps_for PassesOwn.never rfl (pi_listK (K := K) rfl (pe_ix (ix_tupK (K := K) rfl) (pv 0) pe_int (fun _ _ => rfl))) (pg_name (i := 2) sc_firsts_of.nd rfl (Or.inl rfl))
      (pss_one (ps_expr (pe_appendK (K := K) rfl (pe_dsetd hu (pv 1) (pe_slice (sl_tupK (K := K) rfl) (pv 2) (po_some pe_int) po_none) (pe_lst pa_nil) ⟨rfl, rfl, rfl, rfl⟩) (pa_cons (pe_slice (sl_tupK (K := K) rfl) (pv 2) po_none (po_some pe_int)) pa_nil)))))
      (pss_one (ps_ret (pv 1))))), ?_⟩
    intro f hf
    have s1 := same_new (o := HO.dT []) hf
    refine ⟨_, rfl, _, _, _, _, rfl, rfl, SqT.of (s1 _ _ ht), rfl, a, rfl, ⟨_, SqL.of (s1 _ _ ha)⟩, ?_⟩
    refine for_list (K := K) (a := a) (xs := nvs) (fun i σ H2 => ∃ (x : Option V) (kvs : List (List Key × V)), σ = [some (.ref t), some (.ref f), x] ∧ Same H H2 ∧ H2 f = some (.dT kvs) ∧ kvs.length ≤ i ∧
        (∀ o m : Int, (valV kvs [Sum.inl o, Sum.inl m] = none ∧ firstsOf (ns.take i) o m = []) ∨ ∃ l, valV kvs [Sum.inl o, Sum.inl m] = some (.ref l) ∧ PrsAt H2 l (firstsOf (ns.take i) o m) ∧ H l = none ∧ l ≠ f) ∧
        (∀ (o m o' m' : Int) l, valV kvs [Sum.inl o, Sum.inl m] = some (.ref l) → valV kvs [Sum.inl o', Sum.inl m'] = some (.ref l) → o = o' ∧ m = m'))
      ⟨none, [], rfl, s1, upd_same, Nat.zero_le _, fun o m => .inl ⟨rfl, rfl⟩, fun o m o' m' l h => by cases h⟩ (fun i σ H2 _ ⟨_, _, _, sm, _⟩ => SqL.of (sm _ _ ha)) ?_ ?_
    · rintro i v σ H2 hi ⟨x0, kvs, rfl, sm, hF, kl, hval, inj⟩
      obtain ⟨x, w, ex, rfl, hx⟩ := nts_get dn hi
      have il : i < nvs.length := (List.getElem?_eq_some_iff.mp hi).1
      have hx2 := sm _ _ hx
      have tk : ns.take (i + 1) = ns.take i ++ [x] := by rw [List.take_add_one, ex]; rfl
      -- firsts.setdefault(note[2:], [])
      refine drop_bm_cps (fun v H3 => ∃ l kvs3, v = .ref l ∧ Same H H3 ∧ (∀ a xs, H2 a = some (HO.tup xs) → H3 a = some (HO.tup xs)) ∧ H3 f = some (.dT kvs3) ∧ kvs3.length ≤ i + 1 ∧ valV kvs3 [Sum.inl x.2.2.1, Sum.inl x.2.2.2] = some (.ref l) ∧
          (∀ o m : Int, (valV kvs3 [Sum.inl o, Sum.inl m] = none ∧ firstsOf (ns.take i) o m = []) ∨ ∃ l, valV kvs3 [Sum.inl o, Sum.inl m] = some (.ref l) ∧ PrsAt H3 l (firstsOf (ns.take i) o m) ∧ H l = none ∧ l ≠ f) ∧
          (∀ (o m o' m' : Int) l, valV kvs3 [Sum.inl o, Sum.inl m] = some (.ref l) → valV kvs3 [Sum.inl o', Sum.inl m'] = some (.ref l) → o = o' ∧ m = m')) (fun Q' kQ => ?_) ?_
      · refine ⟨_, rfl, f, rfl, .inr ⟨_, .inl hF⟩, _, rfl, _, rfl, _, _, rfl, SqT.of hx2, part4b _ rfl, fun p1 hp1 => ?_⟩
        have c2 : cutV (nV x) (some 2) none = [.int x.2.2.1, .int x.2.2.2] := cut4b ..
        rw [c2]
        have sp1 := same_new (o := HO.tup [V.int x.2.2.1, V.int x.2.2.2]) hp1
        refine ⟨(by show 0 ≤ sizeLine; decide), fun e he => ?_⟩
        have sp2 := same_new (o := HO.lst []) he
        have s12 := sp1.trans sp2
        refine ⟨kvs, [Sum.inl x.2.2.1, Sum.inl x.2.2.2], p1, s12 _ _ hF, rfl, sp2 _ _ upd_same, by rw [sizeLine_eq]; omega, fun v hv => ?_, fun hn => ?_⟩
        · rcases hval x.2.2.1 x.2.2.2 with z | ⟨l, e1, e2, e3, e4⟩
          · rw [z.1] at hv; cases hv
          · rw [e1] at hv
            cases hv
            refine kQ _ _ ⟨l, kvs, rfl, sm.trans s12, s12.tups, s12 _ _ hF, by omega, e1, fun o m => ?_, inj⟩
            rcases hval o m with z | ⟨l', f1, f2, f3, f4⟩
            · exact .inl z
            · exact .inr ⟨l', f1, f2.same s12, f3, f4⟩
        · have kF : Kp f (upd (upd H2 p1 (.tup [V.int x.2.2.1, V.int x.2.2.2])) e (.lst [])) (upd (upd (upd H2 p1 (.tup [V.int x.2.2.1, V.int x.2.2.2])) e (.lst [])) f (.dT (putK kvs [Sum.inl x.2.2.1, Sum.inl x.2.2.2] (.ref e)))) := Kp.set
          have nef : e ≠ f := fun z => by rw [← z] at hF; rw [sp1 _ _ hF] at he; cases he
          have hFe : (upd (upd H2 p1 (.tup [V.int x.2.2.1, V.int x.2.2.2])) e (.lst [])) f = some (.dT kvs) := s12 _ _ hF
          have he2 : H2 e = none := sp1.free he
          have tF : ∀ a xs, (upd (upd H2 p1 (.tup [V.int x.2.2.1, V.int x.2.2.2])) e (.lst [])) a = some (HO.tup xs) → (upd (upd (upd H2 p1 (.tup [V.int x.2.2.1, V.int x.2.2.2])) e (.lst [])) f (.dT (putK kvs [Sum.inl x.2.2.1, Sum.inl x.2.2.2] (.ref e)))) a = some (HO.tup xs) := fun a xs h => kF _ _ h (ne_of h hFe (by intro z; cases z))
          have neq : ∀ o m : Int, ([Sum.inl o, Sum.inl m] : List Key) = [Sum.inl x.2.2.1, Sum.inl x.2.2.2] ↔ o = x.2.2.1 ∧ m = x.2.2.2 := fun o m => by
            constructor
            · intro z; injection z with z1 z2; injection z2 with z2 _; exact ⟨Sum.inl.inj z1, Sum.inl.inj z2⟩
            · rintro ⟨rfl, rfl⟩; rfl
          refine kQ _ _ ⟨e, _, rfl, fun b o eb => kF _ _ ((sm.trans s12) _ _ eb) (ne_of_none eb hf), fun a xs h => tF _ _ (s12.tups _ _ h), upd_same, ?_, by rw [valV_put, if_pos rfl], fun o m => ?_, fun o m o' m' l h1 h2 => ?_⟩
          · exact Nat.le_trans (length_putK ..) (by omega)
          · rw [valV_put]
            by_cases q : o = x.2.2.1 ∧ m = x.2.2.2
            · rw [if_pos ((neq o m).mpr q)]
              obtain ⟨rfl, rfl⟩ := q
              refine .inr ⟨e, rfl, ?_, sm.free he2, nef⟩
              rcases hval x.2.2.1 x.2.2.2 with z | ⟨l, e1, _⟩
              · rw [z.2]
                exact ⟨[], kF _ _ upd_same nef, by simp [Dats]⟩
              · rw [e1] at hn; cases hn
            · rw [if_neg fun z => q ((neq o m).mp z)]
              rcases hval o m with z | ⟨l', f1, f2, f3, f4⟩
              · exact .inl z
              · refine .inr ⟨l', f1, ?_, f3, f4⟩
                obtain ⟨ws, g1, g2⟩ := f2.same s12
                exact ⟨ws, kF _ _ g1 f4, Dats.keep tF _ (imms_map _ imm_pD _) g2⟩
          · rw [valV_put] at h1 h2
            have old : ∀ o m : Int, valV kvs [Sum.inl o, Sum.inl m] = some (V.ref e) → False := fun o m h => by
              rcases hval o m with z | ⟨l', f1, ⟨ws, g1, _⟩, f3, f4⟩
              · rw [z.1] at h; cases h
              · rw [f1] at h
                cases h
                rw [he2] at g1
                cases g1
            by_cases q : o = x.2.2.1 ∧ m = x.2.2.2
            · rw [if_pos ((neq o m).mpr q)] at h1
              cases h1
              by_cases q' : o' = x.2.2.1 ∧ m' = x.2.2.2
              · exact ⟨q.1.trans q'.1.symm, q.2.trans q'.2.symm⟩
              · rw [if_neg fun z => q' ((neq o' m').mp z)] at h2
                exact (old _ _ h2).elim
            · rw [if_neg fun z => q ((neq o m).mp z)] at h1
              by_cases q' : o' = x.2.2.1 ∧ m' = x.2.2.2
              · rw [if_pos ((neq o' m').mpr q')] at h2
                cases h2
                exact (old _ _ h1).elim
              · rw [if_neg fun z => q' ((neq o' m').mp z)] at h2
                exact inj _ _ _ _ _ h1 h2
      · rintro v H3 ⟨l, kvs3, rfl, sm3, tp3, hF3, kl3, hkey, hval3, inj3⟩
        obtain ⟨z0, PL, hl0, nlf⟩ : ∃ z0 : True, PrsAt H3 l (firstsOf (ns.take i) x.2.2.1 x.2.2.2) ∧ H l = none ∧ l ≠ f := by
          rcases hval3 x.2.2.1 x.2.2.2 with z | ⟨l', f1, f2, f3, f4⟩
          · rw [z.1] at hkey; cases hkey
          · rw [f1] at hkey
            cases hkey
            exact ⟨trivial, f2, f3, f4⟩
        obtain ⟨ws, hl3, dl3⟩ := id PL
        refine ⟨.inl ⟨rfl, _, SqL.of hl3⟩, _, rfl, _, rfl, _, _, rfl, SqT.of (tp3 _ _ hx2), part4a _ rfl, fun p2 hp2 => ?_⟩
        have c1 : cutV (nV x) none (some 2) = [.int x.1, .int x.2.1] := cut4a ..
        rw [c1]
        have sp := same_new (o := HO.tup [V.int x.1, V.int x.2.1]) hp2
        have wl : ws.length ≤ ns.length := by
          rw [dl3.length, List.length_map]
          unfold firstsOf
          rw [List.length_map]
          have a1 := List.length_filter_le (fun y : Nt => decide (y.2.2.1 = x.2.2.1) && decide (y.2.2.2 = x.2.2.2)) (ns.take i)
          have a2 : (ns.take i).length ≤ ns.length := by rw [List.length_take]; omega
          omega
        refine ⟨l, ws, _, rfl, rfl, sp _ _ hl3, by rw [sizeLine_eq]; omega, ?_⟩
        have kL : Kp l (upd H3 p2 (.tup [V.int x.1, V.int x.2.1])) (upd (upd H3 p2 (.tup [V.int x.1, V.int x.2.1])) l (.lst (ws ++ [V.ref p2]))) := Kp.set
        have tL := kL.tups (sp _ _ hl3)
        refine ⟨_, kvs3, rfl, fun b o eb => kL _ _ (sp _ _ (sm3 _ _ eb)) (ne_of_none eb hl0), kL _ _ (sp _ _ hF3) nlf.symm, kl3, fun o m => ?_, inj3⟩
        rw [tk, firstsOf_snoc]
        by_cases q : x.2.2.1 = o ∧ x.2.2.2 = m
        · obtain ⟨rfl, rfl⟩ := q
          rw [if_pos ⟨rfl, rfl⟩]
          refine .inr ⟨l, hkey, ⟨_, upd_same, ?_⟩, hl0, nlf⟩
          rw [List.map_append]
          exact Dats.append (Dats.keep (fun a xs h => tL _ _ (sp.tups _ _ h)) _ (imms_map _ imm_pD _) dl3) (dats1 (dat_prs (x := ft x) (tL _ _ upd_same)))
        · rw [if_neg q, List.append_nil]
          rcases hval3 o m with z | ⟨l', f1, f2, f3, f4⟩
          · exact .inl z
          · have nll : l' ≠ l := fun z => by
              subst z
              obtain ⟨e1, e2⟩ := inj3 _ _ _ _ _ f1 hkey
              exact q ⟨e1.symm, e2.symm⟩
            obtain ⟨us, g1, g2⟩ := f2
            exact .inr ⟨l', f1, ⟨us, kL _ _ (sp _ _ g1) nll, Dats.keep (fun a xs h => tL _ _ (sp.tups _ _ h)) _ (imms_map _ imm_pD _) g2⟩, f3, f4⟩
    · rintro σ H2 ⟨x0, kvs, rfl, sm, hF, kl, hval, inj⟩
      rw [nvl, List.take_length] at hval
      refine ⟨_, rfl, k f H2 hf ⟨kvs, hF, fun o m => ?_⟩ sm⟩
      rcases hval o m with z | ⟨l, f1, f2, _⟩
      · exact .inl z
      · exact .inr ⟨l, f1, f2⟩
/-- the hand has a touch left, and all that the notes have ahead of it is done -/
def isFree (cs : List Int) (ns : List Nt) (ds : List Int) (h : Int) : Bool := !decide (gI ds h = gI cs h) && (firstsOf ns h (gI ds h)).all fun q => decide (q.2 < gI ds q.1)
def DnAt (K : PySem.W.Frag) (H : Hp) (d : Addr) (ds : List Int) : Prop := SqL K H d (ds.map V.int) ∨ SqT K H d (ds.map V.int)
theorem DnAt.same {K : PySem.W.Frag} {H H' : Hp} {d : Addr} {ds : List Int} (h : DnAt K H d ds) (k : Same H H') : DnAt K H' d ds := by
  rcases h with h | h
  · exact .inl (k.seq h)
  · refine .inr ?_
    rcases h with (h | ⟨o, h⟩) | h
    · exact .inl (.inl (k _ _ h))
    · exact .inl (.inr ⟨o, k _ _ h⟩)
    · exact .inr h
theorem rIx_dn {K : PySem.W.Frag} {H : Hp} {d : Addr} {ds : List Int} {h : Int} {Q : VK} (D : DnAt K H d ds) (h0 : 0 ≤ h) (h1 : h < ds.length) (q : Q (.int (gI ds h)) H) : rIx K (.ref d) (.int h) H Q := by
  rcases D with D | D
  · exact .inl ⟨d, _, h, _, rfl, rfl, D, atI_gI h0 h1, q⟩
  · exact .inr (.inl ⟨d, _, h, _, rfl, rfl, D, atI_gI h0 h1, q⟩)
def spHas (K : PySem.W.Frag) : Sp := fun vs H Q _ => ∃ (d t : Addr) (ds : List Int) (h k : Int), vs = [.ref d, .ref t] ∧ DnAt K H d ds ∧ H t = some (.tup [.int h, .int k]) ∧ 0 ≤ h ∧ h < ds.length ∧ Q (.bl (decide (k < gI ds h))) H
theorem ok_has {f : Addr} {fd : FuncData} (F : Fun K "has" "has" s_has f fd) : FnOk P w K mg base CX0 1 f fd ["done", "touch"] (spHas K) := by
  refine F.ok sc_has (fun vs H Q E h => ?_) (fun cdv A outer s H vs Q E hr h => ?_)
  · obtain ⟨d, t, ds, h, k, rfl, _⟩ := h
    rfl
  · obtain ⟨d, t, ds, h, k, rfl, hd, ht, h0, h1, q⟩ := h
    refine ⟨_, (pss_one (ps_ret (pe_cmpR op_lt (pe_ix (ix_tupK (K := K) rfl) (pv 1) pe_int (fun _ _ => rfl)) (pe_ix (ix_seqK (K := K) rfl) (pv 0) (pe_ix (ix_tupK (K := K) rfl) (pv 1) pe_int (fun _ _ => rfl)) (fun _ _ => rfl)) (nomark _)))), ?_⟩
    exact ⟨_, rfl, _, _, _, _, rfl, rfl, SqT.of ht, rfl, _, rfl, _, rfl, _, _, _, _, rfl, rfl, SqT.of ht, rfl, rIx_dn hd h0 h1 ⟨_, _, rfl, rfl, q⟩⟩
def spFree (K : PySem.W.Frag) : Sp := fun vs H Q _ => ∃ (c f d : Addr) (cs ds : List Int) (ns : List Nt) (h : Int), vs = [.ref c, .ref f, .ref d, .int h] ∧ H c = some (.lst (cs.map V.int)) ∧ FirstsAt H f ns ∧ DnAt K H d ds ∧ RecOk cs ns ∧ ds.length = cs.length ∧ 0 ≤ h ∧ h < cs.length ∧ ∀ H', Same H H' → Q (.bl (isFree cs ns ds h)) H'
theorem ok_is_free {f : Addr} {fd : FuncData} (F : Fun K "is_free" "is_free" s_is_free f fd) (F_has : FnAt P w K mg base 1 "has" ["done", "touch"] (spHas K)) (Bt : Blt mg) : FnOk P w K mg base CX0 2 f fd ["counts", "firsts", "done", "hand"] (spFree K) := by
  refine F.ok sc_is_free (fun vs H Q E h => ?_) (fun cdv A outer s H vs Q E hr h => ?_)
  · obtain ⟨c, f, d, cs, ds, ns, h, rfl, _⟩ := h
    rfl
  · obtain ⟨c, f, d, cs, ds, ns, h, rfl, hc, FA, hd, ok, dl, h0, h1, k⟩ := h
    have hu := hu_of hr
    have hu64 := hr.units
    refine ⟨_, (pss_cons (ps_if (pt_cmpR op_eq (pe_ix (ix_seqK (K := K) rfl) (pv 2) (pv 3) (fun _ _ => rfl)) (pe_ix (ix_listK (K := K) rfl) (pv 0) (pv 3) (fun _ _ => rfl)) (nomark _)) (pss_one (ps_ret pe_bl)) pss_nil)
      (pss_one (ps_ret (pe_callB (call_all_boolsK (K := K) rfl rfl) (by rfl) Bt.b_all bt_all (pa_cons (pe_comp rfl (N := ["first", "done"]) (own := ["first"]) (caps := [2]) (CompScope.of (by kernel_rfl)) (pi_listK (K := K) rfl (pe_dget2 hu (pv 1) (pe_tup (pa_cons (pv 3) (pa_cons (pe_ix (ix_seqK (K := K) rfl) (pv 2) (pv 3) (fun _ _ => rfl)) pa_nil))) (pe_lst pa_nil) ⟨rfl, rfl, rfl, rfl⟩)) (fun _ _ _ _ => (pg_name (i := 0) (show List.Nodup (["first", "done"] : List Str) by decide +kernel) rfl (Or.inl rfl))) (fun _ _ _ _ => pts_nil) (fun _ _ _ _ => (pe_fn F_has (hr.mono (by decide)) (by rfl) (pa_cons (pv 1) (pa_cons (pv 0) pa_nil))))) pa_nil))))), ?_⟩
    refine ⟨_, rfl, _, rfl, rIx_dn hd h0 (by omega) ⟨_, rfl, _, rfl, _, _, _, _, rfl, rfl, SqL.of hc, atI_gI h0 h1, rfl, _, rfl, ?_⟩⟩
    by_cases e : gI ds h = gI cs h
    · rw [show decide (V.int (gI ds h) = V.int (gI cs h)) = true by simp [e]]
      refine iteT ?_
      have : isFree cs ns ds h = false := by simp [isFree, e]
      rw [← this]
      exact k H (Same.refl _)
    · rw [show decide (V.int (gI ds h) = V.int (gI cs h)) = false by simp [e]]
      refine iteF ?_
      obtain ⟨kvs, hF, hval⟩ := FA
      refine ⟨_, rfl, f, rfl, .inr ⟨_, .inl hF⟩, _, rfl, _, rfl, _, rfl, rIx_dn hd h0 (by omega) ⟨(by show 2 ≤ sizeLine; decide), fun t ht => ?_⟩⟩
      have s1 := same_new (o := HO.tup [V.int h, V.int (gI ds h)]) ht
      refine ⟨(by show 0 ≤ sizeLine; decide), fun el hel => ?_⟩
      have s2 := same_new (o := HO.lst []) hel
      have s12 := s1.trans s2
      refine ⟨_, DGet.t (k := [Sum.inl h, Sum.inl (gI ds h)]) (s12 _ _ hF) (s2 _ _ upd_same), ?_⟩
      obtain ⟨l, el', PL⟩ : ∃ l, (valV kvs [Sum.inl h, Sum.inl (gI ds h)]).getD (V.ref el) = .ref l ∧ PrsAt (upd (upd H t (.tup [V.int h, V.int (gI ds h)])) el (.lst [])) l (firstsOf ns h (gI ds h)) := by
        rcases hval h (gI ds h) with z | ⟨l, e1, e2⟩
        · exact ⟨el, by rw [z.1]; rfl, by rw [z.2]; exact ⟨[], upd_same, by simp [Dats]⟩⟩
        · exact ⟨l, by rw [e1]; rfl, e2.same s12⟩
      rw [el']
      obtain ⟨vs, hl, dv⟩ := id PL
      have vl : vs.length = (firstsOf ns h (gI ds h)).length := by rw [dv.length, List.length_map]
      have fl : (firstsOf ns h (gI ds h)).length ≤ ns.length := by unfold firstsOf; rw [List.length_map]; exact List.length_filter_le ..
      have nl := ok.2.1
      refine ⟨l, rfl, ⟨_, SqL.of hl⟩, fun D hD => ?_⟩
      refine comp_val (K := K) (fun i => ((firstsOf ns h (gI ds h))[i]?).map fun q => V.bl (decide (q.2 < gI ds q.1))) hD (SqL.of hl) (by omega) (fun i v H3 G F hi s3 kG kF => ?_) (fun H3 s3 e3 => ?_)
      · obtain ⟨q, u, eq, rfl, hq⟩ := prs_get dv hi
        have qm : ∃ x ∈ ns, q = ft x := by
          obtain ⟨x, hx, e⟩ := List.mem_map.mp (List.mem_of_getElem? eq)
          exact ⟨x, (List.mem_filter.mp hx).1, e.symm⟩
        obtain ⟨x, xm, rfl⟩ := qm
        obtain ⟨⟨a0, a1⟩, _⟩ := ok.2.2 x xm
        refine ⟨_, rfl, _, rfl, d, u, ds, x.1, x.2.1, rfl, (hd.same s12).same s3, s3 _ _ hq, a0, by omega, kF _ H3 (Same.refl _) ?_⟩
        rw [eq]; rfl
      · rw [vl, fm_some] at e3
        refine ⟨D, (firstsOf ns h (gI ds h)).map (fun q => decide (q.2 < gI ds q.1)), rfl, SqL.of (by rw [e3, List.map_map]; rfl), ?_⟩
        have : isFree cs ns ds h = ((firstsOf ns h (gI ds h)).map (fun q => decide (q.2 < gI ds q.1))).all id := by
          unfold isFree
          rw [List.all_map]
          simp [e]
        rw [← this]
        exact k H3 (s12.trans s3)

def freeH (cs : List Int) (ns : List Nt) (ds : List Int) : List Int := (List.range cs.length).filterMap fun (i : Nat) => if isFree cs ns ds (i : Int) then some (i : Int) else none
theorem freeH_map (cs : List Int) (ns : List Nt) (ds : List Int) : (List.range cs.length).filterMap (fun (i : Nat) => if isFree cs ns ds (i : Int) then some (V.int (0 + (i : Int))) else none) = (freeH cs ns ds).map V.int := by
  unfold freeH
  rw [List.map_filterMap]
  refine fm_congr _ trivial fun i _ => ?_
  by_cases q : isFree cs ns ds (i : Int) = true
  · rw [if_pos q, if_pos q]; simp
  · rw [if_neg q, if_neg q]; rfl
theorem mem_freeH {cs : List Int} {ns : List Nt} {ds : List Int} {h : Int} : h ∈ freeH cs ns ds ↔ 0 ≤ h ∧ h < cs.length ∧ isFree cs ns ds h = true := by
  unfold freeH
  rw [List.mem_filterMap]
  constructor
  · rintro ⟨i, hi, e⟩
    have hi' : i < cs.length := by simpa using hi
    by_cases q : isFree cs ns ds (i : Int) = true
    · rw [if_pos q] at e
      cases e
      exact ⟨by omega, by omega, q⟩
    · rw [if_neg q] at e
      cases e
  · rintro ⟨h0, h1, q⟩
    refine ⟨h.toNat, by simp; omega, ?_⟩
    rw [show ((h.toNat : Nat) : Int) = h by omega, if_pos q]
theorem freeH_len (cs : List Int) (ns : List Nt) (ds : List Int) : (freeH cs ns ds).length ≤ cs.length := fm_len _ _
def spFreeH (K : PySem.W.Frag) : Sp := fun vs H Q _ => ∃ (c f d : Addr) (cs ds : List Int) (ns : List Nt), vs = [.ref c, .ref f, .ref d] ∧ H c = some (.lst (cs.map V.int)) ∧ FirstsAt H f ns ∧ DnAt K H d ds ∧ RecOk cs ns ∧ ds.length = cs.length ∧ ∀ (p : Addr) (H' : Hp), H p = none → H' p = some (.lst ((freeH cs ns ds).map V.int)) → Same H H' → Q (.ref p) H'
theorem ok_free_hands {f : Addr} {fd : FuncData} (F : Fun K "free_hands" "free_hands" s_free_hands f fd) (F_is_free : FnAt P w K mg base 2 "is_free" ["counts", "firsts", "done", "hand"] (spFree K)) (Bt : Blt mg) : FnOk P w K mg base CX0 3 f fd ["counts", "firsts", "done"] (spFreeH K) := by
  refine F.ok sc_free_hands (fun vs H Q E h => ?_) (fun cdv A outer s H vs Q E hr h => ?_)
  · obtain ⟨c, f, d, cs, ds, ns, rfl, _⟩ := h
    rfl
  · obtain ⟨c, f, d, cs, ds, ns, rfl, hc, FA, hd, ok, dl, k⟩ := h
    have c8 := ok.1.1
    refine ⟨_, (pss_one (ps_ret (pe_comp rfl (N := ["hand", "counts", "firsts", "done"]) (own := ["hand"]) (caps := [0, 1, 2]) (CompScope.of (by kernel_rfl)) (pi_range1 (by rfl) Bt.b_range (pa_cons (pe_callB (call_len_seqK (K := K) rfl) (by rfl) Bt.b_len bt_len (pa_cons (pv 0) pa_nil)) pa_nil)) (fun _ _ _ _ => (pg_name (i := 0) (show List.Nodup (["hand", "counts", "firsts", "done"] : List Str) by decide +kernel) rfl (Or.inl rfl))) (fun _ _ _ _ => (pts_one (pt_val (pe_fn F_is_free (hr.mono (by decide)) (by rfl) (pa_cons (pv 1) (pa_cons (pv 2) (pa_cons (pv 3) (pa_cons (pv 0) pa_nil)))))))) (fun _ _ _ _ => (pv 0))))), ?_⟩
    refine ⟨_, rfl, c, _, rfl, .inl (SqL.of hc), _, rfl, by rw [List.length_map]; omega, by rw [List.length_map]; omega, fun D hD => ?_⟩
    have lnm : (((cs.map V.int).length : Nat) : Int).toNat = cs.length := by simp
    rw [lnm]
    refine comp_valR (fun (i : Nat) => if isFree cs ns ds (i : Int) then some (V.int (0 + (i : Int))) else none) hD (by omega) (fun j H3 G F hj s3 kG kF => ?_) (fun H3 s3 e3 => ?_)
    · refine ⟨_, rfl, _, rfl, _, rfl, _, rfl, c, f, d, cs, ds, ns, 0 + (j : Int), rfl, s3 _ _ hc, FA.same s3, hd.same s3, ok, dl, by omega, by omega, fun H4 s4 => ⟨_, rfl, ?_⟩⟩
      have ej : (0 + (j : Int)) = (j : Int) := by omega
      rw [ej]
      by_cases q : isFree cs ns ds (j : Int) = true
      · rw [q]
        refine iteT ⟨_, rfl, kF _ H4 s4 ?_⟩
        rw [if_pos q, ej]
      · have q' : isFree cs ns ds (j : Int) = false := by simpa using q
        rw [q']
        exact iteF (kG H4 s4 (if_neg q))
    · rw [freeH_map] at e3
      exact k D H3 hD e3 s3
def stp (ds : List Int) (h : Int) : List Int := ds.set h.toNat (gI ds h + 1)
def runK (cs : List Int) (ns : List Nt) : List Int → List Int → Bool
  | [], _ => true
  | h :: os, ds => if isFree cs ns ds h then runK cs ns os (stp ds h) else false
def zs (cs : List Int) : List Int := List.replicate cs.length 0
def inR (cs os : List Int) : Prop := ∀ h ∈ os, 0 ≤ h ∧ h < cs.length
def OrdFull (cs os : List Int) : Prop := inR cs os ∧ os.length ≤ 2400 ∧ ∀ h : Int, 0 ≤ h → h < cs.length → (os.count h : Int) = gI cs h
def spCheckO (K : PySem.W.Frag) : Sp := fun vs H Q _ => ∃ (t c a o : Addr) (cs os : List Int) (ns : List Nt), vs = [.ref t, .ref o] ∧ RecAt H t c a cs ns ∧ CsOk cs ∧ H o = some (.lst (os.map V.int)) ∧ OrdFull cs os ∧ ∀ H', Same H H' → Q .non H'
theorem ok_check_order {f : Addr} {fd : FuncData} (F : Fun K "check_order" "check_order" s_check_order f fd) (F_is_below : FnAt P w K mg base 2 "is_below" ["value", "count"] (spBelow K)) (Bt : Blt mg) : FnOk P w K mg base CX0 3 f fd ["record", "order"] (spCheckO K) := by
  refine F.ok sc_check_order (fun vs H Q E h => ?_) (fun cdv A outer s H vs Q E hr h => ?_)
  · obtain ⟨t, c, a, o, cs, os, ns, rfl, _⟩ := h
    rfl
  · obtain ⟨t, c, a, o, cs, os, ns, rfl, ⟨ht, hc, hN⟩, ok, ho, oo, k⟩ := h
    have hu64 := hr.units
    have c8 := ok.1
    have ol := oo.2.1
    refine ⟨_, (pss_cons (ps_set (i := 2) sc_check_order.nd rfl (Or.inr rfl) (pe_callB (call_len_seqK (K := K) rfl) (by rfl) Bt.b_len bt_len (pa_cons (pe_ix (ix_tupK (K := K) rfl) (pv 0) pe_int (fun _ _ => rfl)) pa_nil)))
      (pss_cons (ps_if (PW.pt (pw_or (pt_not (pt_val (pe_callB (call_isiK (K := K) (cv := .ty "list") (c := .type "list") rfl rfl) (by rfl) Bt.b_isinstance bt_isinstance (pa_cons (pv 1) (pa_cons (pe_bltn (v := .ty "list") (by rfl) Bt.b_list bt_list rfl) pa_nil))))) (pw_or1 (pt_not (pt_val (pe_callB (call_all_boolsK (K := K) rfl rfl) (by rfl) Bt.b_all bt_all (pa_cons (pe_comp rfl (N := ["hand", "hands"]) (own := ["hand"]) (caps := [2]) (CompScope.of (by kernel_rfl)) (pi_listK (K := K) rfl (pv 1)) (fun _ _ _ _ => (pg_name (i := 0) (show List.Nodup (["hand", "hands"] : List Str) by decide +kernel) rfl (Or.inl rfl))) (fun _ _ _ _ => pts_nil) (fun _ _ _ _ => (pe_fn F_is_below (hr.mono (by decide)) (by rfl) (pa_cons (pv 0) (pa_cons (pv 1) pa_nil))))) pa_nil))))))) (pss_one ps_never) pss_nil)
      (pss_one (ps_if (pt_cmpR (op_neDK (K := K) rfl hu64) (pe_comp rfl (N := ["hand", "order"]) (own := ["hand"]) (caps := [1]) (CompScope.of (by kernel_rfl)) (pi_range1 (by rfl) Bt.b_range (pa_cons (pv 2) pa_nil)) (fun _ _ _ _ => (pg_name (i := 0) (show List.Nodup (["hand", "order"] : List Str) by decide +kernel) rfl (Or.inl rfl))) (fun _ _ _ _ => pts_nil) (fun _ _ _ _ => (pe_bmK (K := K) rfl PySem.F.plainAttrs_list PySem.F.slot_list_count PySem.F.type_list_count (mt_countK (K := K) rfl) (pv 1) (pa_cons (pv 0) pa_nil)))) (pe_ix (ix_tupK (K := K) rfl) (pv 0) pe_int (fun _ _ => rfl)) (nomark _)) (pss_one ps_never) pss_nil)))), ?_⟩
    refine ⟨_, rfl, _, _, _, _, rfl, rfl, SqT.of ht, rfl, c, _, rfl, .inl (SqL.of hc), ?_⟩
    refine ⟨_, rfl, _, _, true, rfl, .lst ho, isi_list_list K, true, rfl, ?_⟩
    refine iteF ?_
    refine ⟨_, rfl, o, rfl, ⟨_, SqL.of ho⟩, fun D hD => ?_⟩
    refine comp_val (K := K) (fun i => some (.bl true)) hD (SqL.of ho) (by rw [List.length_map]; omega) (fun i v H2 G F hi s2 kG kF => ?_) (fun H2 s2 e2 => ?_)
    · rw [List.getElem?_map] at hi
      cases ei : os[i]? with
      | none => rw [ei] at hi; cases hi
      | some h =>
        rw [ei] at hi
        cases hi
        have q := oo.1 h (List.mem_of_getElem? ei)
        refine ⟨_, rfl, _, rfl, h, (cs.map V.int).length, rfl, ?_⟩
        rw [decide_eq_true (show inP h (cs.map V.int).length from ⟨q.1, by rw [List.length_map]; exact q.2⟩)]
        exact kF _ H2 (Same.refl _) rfl
    rw [fm_const] at e2
    refine ⟨D, List.replicate (os.map V.int).length true, rfl, SqL.of (by rw [e2, List.map_replicate]), _, rfl, ?_⟩
    rw [show (List.replicate (os.map V.int).length true).all id = true by simp]
    refine iteF ?_
    refine ⟨_, rfl, _, rfl, by rw [List.length_map]; omega, by rw [List.length_map]; omega, fun D2 hD2 => ?_⟩
    have lnm : (((cs.map V.int).length : Nat) : Int).toNat = cs.length := by simp
    rw [lnm]
    refine comp_valR (fun (i : Nat) => some (V.int (os.count (0 + (i : Int)) : Nat))) hD2 (by omega) (fun j H3 G F hj s3 kG kF => ?_) (fun H3 s3 e3 => ?_)
    · refine ⟨_, rfl, .inl ⟨rfl, _, SqL.of (s3 _ _ (s2 _ _ ho))⟩, _, rfl, o, os, 0 + (j : Int), rfl, rfl, SqL.of (s3 _ _ (s2 _ _ ho)), kF _ H3 (Same.refl _) rfl⟩
    have e3' : H3 D2 = some (.lst (cs.map V.int)) := by
      rw [e3]
      congr 2
      have : (List.range cs.length).filterMap (fun (i : Nat) => some (V.int (os.count (0 + (i : Int)) : Nat))) = (List.range cs.length).filterMap (fun (i : Nat) => (cs[i]?).map V.int) := by
        refine fm_congr _ trivial fun i hi => ?_
        have hi' : i < cs.length := by simpa using hi
        have q := oo.2.2 (0 + (i : Int)) (by omega) (by omega)
        rw [q, show (0 + (i : Int)) = i by omega, gI_nat (c := cs[i]) (by simp [hi'])]
        simp [hi']
      rw [this, fm_some]
    have s23 := s2.trans s3
    refine ⟨_, rfl, _, _, _, _, rfl, rfl, SqT.of (s23 _ _ ht), rfl, _, _, dat_ints e3', dat_ints (s23 _ _ hc), shaped_ints _, shaped_ints _, _, rfl, ?_⟩
    rw [if_pos rfl, eqv_list PyData.int eqv_int, decide_eq_true rfl]
    refine iteF ?_
    exact k H3 s23
theorem zs_map (n : Nat) : (List.range n).filterMap (fun _ => some (V.int 0)) = (List.replicate n (0 : Int)).map V.int := by rw [fm_const, List.map_replicate]
def spKeeps (K : PySem.W.Frag) : Sp := fun vs H Q _ => ∃ (t c a o : Addr) (cs os : List Int) (ns : List Nt), vs = [.ref t, .ref o] ∧ RecAt H t c a cs ns ∧ RecOk cs ns ∧ H o = some (.lst (os.map V.int)) ∧ OrdFull cs os ∧ ∀ H', Same H H' → Q (.bl (runK cs ns os (zs cs))) H'
theorem ok_keeps {f : Addr} {fd : FuncData} (F : Fun K "keeps" "keeps" s_keeps f fd) (F_check_notes : FnAt P w K mg base 4 "check_notes" ["record"] (spCheckN K)) (F_check_order : FnAt P w K mg base 3 "check_order" ["record", "order"] (spCheckO K)) (F_firsts_of : FnAt P w K mg base 1 "firsts_of" ["record"] (spFirsts K)) (F_is_free : FnAt P w K mg base 2 "is_free" ["counts", "firsts", "done", "hand"] (spFree K)) (Bt : Blt mg) : FnOk P w K mg base CX0 5 f fd ["record", "order"] (spKeeps K) := by
  refine F.ok sc_keeps (fun vs H Q E h => ?_) (fun cdv A outer s H vs Q E hr h => ?_)
  · obtain ⟨t, c, a, o, cs, os, ns, rfl, _⟩ := h
    rfl
  · obtain ⟨t, c, a, o, cs, os, ns, rfl, R, ok, ho, oo, k⟩ := h
    have hu64 := hr.units
    have c8 := ok.1.1
    refine ⟨_, (pss_cons (ps_expr (pe_fn F_check_notes (hr.mono (by decide)) (by rfl) (pa_cons (pv 0) pa_nil)))
      (pss_cons (ps_expr (pe_fn F_check_order (hr.mono (by decide)) (by rfl) (pa_cons (pv 0) (pa_cons (pv 1) pa_nil))))
      (pss_cons (ps_set (i := 2) sc_keeps.nd rfl (Or.inl rfl) (pe_fn F_firsts_of (hr.mono (by decide)) (by rfl) (pa_cons (pv 0) pa_nil)))
      (pss_cons (ps_setC (i := 3) rfl sc_keeps.nd rfl (Or.inl rfl) (N := ["count"]) (own := ["count"]) (caps := []) (CompScope.of (by kernel_rfl)) (pi_listK (K := K) rfl (pe_ix (ix_tupK (K := K) rfl) (pv 0) pe_int (fun _ _ => rfl))) (fun _ _ _ _ => (pg_name (i := 0) (show List.Nodup (["count"] : List Str) by decide +kernel) rfl (Or.inl rfl))) (fun _ _ _ _ => pts_nil) (fun _ _ _ _ => pe_int))
      (pss_cons (ps_for PassesOwn.never rfl (pi_listK (K := K) rfl (pv 1)) (pg_name (i := 4) sc_keeps.nd rfl (Or.inl rfl))
      (pss_cons (ps_if (pt_not (pt_val (pe_fn F_is_free (hr.mono (by decide)) (by rfl) (pa_cons (pe_ix (ix_tupK (K := K) rfl) (pv 0) pe_int (fun _ _ => rfl)) (pa_cons (pv 2) (pa_cons (pv 3) (pa_cons (pv 4) pa_nil))))))) (pss_one (ps_ret pe_bl)) pss_nil)
      (pss_one (ps_augS (pv 3) (pv 4) (pget_listK (K := K) rfl) pe_int ip_add set_list))))
      (pss_one (ps_ret pe_bl))))))), ?_⟩
    refine ⟨_, rfl, t, c, a, cs, ns, rfl, R, ok, fun H1 s1 => ?_⟩
    refine ⟨_, rfl, _, rfl, t, c, a, o, cs, os, ns, rfl, R.same s1, ok.1, s1 _ _ ho, oo, fun H2 s2 => ?_⟩
    have s12 := s1.trans s2
    refine ⟨_, rfl, t, c, a, cs, ns, rfl, R.same s12, ok, fun f H3 hf FA s3 => ?_⟩
    have s13 := s12.trans s3
    have R3 := R.same s13
    refine ⟨_, rfl, _, _, _, _, rfl, rfl, SqT.of R3.1, rfl, c, rfl, ⟨_, SqL.of R3.2.1⟩, fun p hp => ?_⟩
    refine comp_val (K := K) (fun i => some (.int 0)) hp (SqL.of R3.2.1) (by rw [List.length_map]; omega) (fun i v H4 G F hi s4 kG kF => kF _ H4 (Same.refl _) rfl) (fun H4 s4 e4 => ?_)
    rw [List.length_map, zs_map] at e4
    have ho4 := s4 _ _ (s13 _ _ ho)
    refine ⟨_, rfl, o, rfl, ⟨_, SqL.of ho4⟩, ?_⟩
    refine for_list (K := K) (a := o) (xs := os.map V.int) (fun i σ H5 => ∃ (ds : List Int) (x : Option V), σ = [some (.ref t), some (.ref o), some (.ref f), some (.ref p), x] ∧ H5 p = some (.lst (ds.map V.int)) ∧ ds.length = cs.length ∧ Same H3 H5 ∧ runK cs ns os (zs cs) = runK cs ns (os.drop i) ds)
      ⟨zs cs, none, rfl, e4, by simp [zs], s4, rfl⟩ (fun i σ H5 _ ⟨_, _, _, _, _, sm, _⟩ => SqL.of (sm _ _ (s13 _ _ ho))) ?_ ?_
    · rintro i v σ H5 hi ⟨ds, x, rfl, hp5, dl, s5, run⟩
      rw [List.getElem?_map] at hi
      cases ei : os[i]? with
      | none => rw [ei] at hi; cases hi
      | some h =>
        rw [ei] at hi
        cases hi
        have il := (List.getElem?_eq_some_iff.mp ei).1
        have q := oo.1 h (List.mem_of_getElem? ei)
        have dr : os.drop i = h :: os.drop (i + 1) := by
          rw [List.drop_eq_getElem_cons il]
          congr 1
          exact (List.getElem?_eq_some_iff.mp ei).2
        have R5 := R3.same s5
        refine ⟨_, rfl, _, _, _, _, rfl, rfl, SqT.of R5.1, rfl, _, rfl, _, rfl, _, rfl, c, f, p, cs, ds, ns, h, rfl, R5.2.1, FA.same s5, .inl (SqL.of hp5), ok, dl, q.1, q.2, fun H6 s6 => ⟨_, rfl, ?_⟩⟩
        have hp6 := s6 _ _ hp5
        rw [dr] at run
        simp only [runK] at run
        by_cases fr : isFree cs ns ds h = true
        · rw [fr]
          refine iteF ?_
          rw [if_pos fr] at run
          have gl : h.toNat < ds.length := by omega
          refine ⟨_, rfl, _, rfl, _, _, _, _, rfl, rfl, SqL.of hp6, q.1, (by rw [List.getElem?_map]; simp [gl]; rfl), _, _, rfl, rfl, _, _, _, _, rfl, rfl, hp6, ixN_nat q.1 (by rw [List.length_map]; omega), ?_⟩
          have eg : ds[h.toNat] = gI ds h := by simp [gI, gl]
          refine ⟨stp ds h, _, rfl, ?_, by simp [stp, dl], fun b u e => Kp.set _ _ ((s5.trans s6) _ _ e) (ne_of_none e hp), run⟩
          show (upd H6 p (.lst ((ds.map V.int).set h.toNat (V.int (ds[h.toNat] + 1))))) p = _
          rw [upd_same, eg, stp, List.map_set]
        · have fr' : isFree cs ns ds h = false := by simpa using fr
          rw [fr']
          refine iteT ?_
          rw [fr'] at run
          have run' : runK cs ns os (zs cs) = false := by simpa using run
          rw [← run']
          exact k H6 ((s13.trans s5).trans s6)
    · rintro σ H5 ⟨ds, x, rfl, hp5, dl, s5, run⟩
      have : runK cs ns os (zs cs) = true := by rw [run, List.length_map, List.drop_length]; rfl
      rw [← this]
      exact k H5 (s13.trans s5)
/-! the first order: the least free hand each time -/
def frun (cs : List Int) (ns : List Nt) : List Int → List Int → Prop
  | [], ds => ds = cs
  | h :: os, ds => (freeH cs ns ds).head? = some h ∧ frun cs ns os (stp ds h)
theorem frun_append {cs : List Int} {ns : List Nt} {os2 : List Int} : ∀ {os ds : List Int}, (∀ i h, os[i]? = some h → (freeH cs ns ((os.take i).foldl stp ds)).head? = some h) → frun cs ns os2 (os.foldl stp ds) → frun cs ns (os ++ os2) ds
  | [], ds, _, h => h
  | x :: os, ds, h1, h2 => by
    refine ⟨by simpa using h1 0 x rfl, frun_append (fun i h e => ?_) h2⟩
    have := h1 (i + 1) h (by simpa using e)
    simpa using this
theorem isFree_lt {cs : List Int} {ns : List Nt} {ds : List Int} {h : Int} (d : DoneOk cs ds) (h0 : 0 ≤ h) (h1 : h < cs.length) (f : isFree cs ns ds h = true) : gI ds h < gI cs h := by
  unfold isFree at f
  simp only [Bool.and_eq_true, Bool.not_eq_true', decide_eq_false_iff_not] at f
  have := d.2 h h0 h1
  omega
theorem stp_ok {cs : List Int} {ns : List Nt} {ds : List Int} {h : Int} (d : DoneOk cs ds) (h0 : 0 ≤ h) (h1 : h < cs.length) (f : isFree cs ns ds h = true) : DoneOk cs (stp ds h) := by
  have lt := isFree_lt d h0 h1 f
  have := d.2 h h0 h1
  refine ⟨by simp [stp, d.1], fun i i0 i1 => ?_⟩
  unfold stp
  rw [gI_set h0 (by rw [d.1]; exact h1) i0]
  by_cases e : i = h
  · subst e; rw [if_pos rfl]; omega
  · rw [if_neg e]; exact d.2 i i0 i1
theorem stp_sum {cs ds : List Int} {h : Int} (d : DoneOk cs ds) (h0 : 0 ≤ h) (h1 : h < cs.length) : (stp ds h).sum = ds.sum + 1 := by
  have hl : h.toNat < ds.length := by rw [d.1]; omega
  have e : ds[h.toNat]? = some (gI ds h) := by simp [gI, hl]
  unfold stp
  rw [sum_set e]
  omega
theorem zs_ok {cs : List Int} (h : CsOk cs) : DoneOk cs (zs cs) := by
  refine ⟨by simp [zs], fun i i0 i1 => ?_⟩
  have : gI (zs cs) i = 0 := by unfold gI zs; rw [List.getElem?_replicate]; split <;> rfl
  rw [this]
  exact ⟨Int.le_refl _, (h.gI i).1⟩
def Stuck (cs : List Int) (ns : List Nt) : Prop := ∃ ds, DoneOk cs ds ∧ ds ≠ cs ∧ freeH cs ns ds = []
def spFirst (K : PySem.W.Frag) : Sp := fun vs H Q _ => ∃ (t c a : Addr) (cs : List Int) (ns : List Nt), vs = [.ref t] ∧ RecAt H t c a cs ns ∧ RecOk cs ns ∧
  (∀ H', Stuck cs ns → Same H H' → Q .non H') ∧ ∀ (p : Addr) (os : List Int) (H' : Hp), H p = none → H' p = some (.lst (os.map V.int)) → frun cs ns os (zs cs) → inR cs os → os.length ≤ 2400 → Same H H' → Q (.ref p) H'
theorem ok_first_order {f : Addr} {fd : FuncData} (F : Fun K "first_order" "first_order" s_first_order f fd) (F_check_notes : FnAt P w K mg base 4 "check_notes" ["record"] (spCheckN K)) (F_firsts_of : FnAt P w K mg base 1 "firsts_of" ["record"] (spFirsts K)) (F_free_hands : FnAt P w K mg base 3 "free_hands" ["counts", "firsts", "done"] (spFreeH K)) (Bt : Blt mg) : FnOk P w K mg base CX0 5 f fd ["record"] (spFirst K) := by
  refine F.ok sc_first_order (fun vs H Q E h => ?_) (fun cdv A outer s H vs Q E hr h => ?_)
  · obtain ⟨t, c, a, cs, ns, rfl, _⟩ := h
    rfl
  · obtain ⟨t, c, a, cs, ns, rfl, R, ok, kN, k⟩ := h
    have hu64 := hr.units
    have c8 := ok.1.1
    have hsum := sum_le ok.1.2
    refine ⟨_, (pss_cons (ps_expr (pe_fn F_check_notes (hr.mono (by decide)) (by rfl) (pa_cons (pv 0) pa_nil)))
      (pss_cons (ps_set (i := 1) sc_first_order.nd rfl (Or.inl rfl) (pe_fn F_firsts_of (hr.mono (by decide)) (by rfl) (pa_cons (pv 0) pa_nil)))
      (pss_cons (ps_setC (i := 2) rfl sc_first_order.nd rfl (Or.inl rfl) (N := ["count"]) (own := ["count"]) (caps := []) (CompScope.of (by kernel_rfl)) (pi_listK (K := K) rfl (pe_ix (ix_tupK (K := K) rfl) (pv 0) pe_int (fun _ _ => rfl))) (fun _ _ _ _ => (pg_name (i := 0) (show List.Nodup (["count"] : List Str) by decide +kernel) rfl (Or.inl rfl))) (fun _ _ _ _ => pts_nil) (fun _ _ _ _ => pe_int))
      (pss_cons (ps_set (i := 3) sc_first_order.nd rfl (Or.inl rfl) (pe_lst pa_nil))
      (pss_cons (ps_while PassesOwn.never (pt_cmpR (op_neDK (K := K) rfl hu64) (pv 2) (pe_ix (ix_tupK (K := K) rfl) (pv 0) pe_int (fun _ _ => rfl)) (nomark _)) (pss_cons (ps_set (i := 4) sc_first_order.nd rfl (Or.inl rfl) (pe_fn F_free_hands (hr.mono (by decide)) (by rfl) (pa_cons (pe_ix (ix_tupK (K := K) rfl) (pv 0) pe_int (fun _ _ => rfl)) (pa_cons (pv 1) (pa_cons (pv 2) pa_nil)))))
      (pss_cons (ps_if (pt_not (pt_truthK (K := K) rfl (pv 4))) (pss_one (ps_ret pe_non)) pss_nil)
      (pss_cons (ps_expr (pe_appendK (K := K) rfl (pv 3) (pa_cons (pe_ix (ix_listK (K := K) rfl) (pv 4) pe_int (fun _ _ => rfl)) pa_nil)))
      (pss_one (ps_augS (pv 2) (pe_ix (ix_listK (K := K) rfl) (pv 4) pe_int (fun _ _ => rfl)) (pget_listK (K := K) rfl) pe_int ip_add set_list))))))
      (pss_one (ps_ret (pv 3)))))))), ?_⟩
    refine ⟨_, rfl, t, c, a, cs, ns, rfl, R, ok, fun H1 s1 => ?_⟩
    refine ⟨_, rfl, t, c, a, cs, ns, rfl, R.same s1, ok, fun f H3 hf FA s3 => ?_⟩
    have s13 := s1.trans s3
    have R3 := R.same s13
    refine ⟨_, rfl, _, _, _, _, rfl, rfl, SqT.of R3.1, rfl, c, rfl, ⟨_, SqL.of R3.2.1⟩, fun p hp => ?_⟩
    refine comp_val (K := K) (fun i => some (.int 0)) hp (SqL.of R3.2.1) (by rw [List.length_map]; omega) (fun i v H4 G F hi s4 kG kF => kF _ H4 (Same.refl _) rfl) (fun H4 s4 e4 => ?_)
    rw [List.length_map, zs_map] at e4
    refine ⟨(by show 0 ≤ sizeLine; decide), fun o ho => ?_⟩
    have s5 := same_new (o := HO.lst []) ho
    have npo : p ≠ o := ne_of_none e4 ho
    have ho3 : H3 o = none := s4.free ho
    refine ⟨fun m σ H6 => ∃ (ds os : List Int) (x : Option V), σ = [some (.ref t), some (.ref f), some (.ref p), some (.ref o), x] ∧ H6 p = some (.lst (ds.map V.int)) ∧ H6 o = some (.lst (os.map V.int)) ∧ DoneOk cs ds ∧ inR cs os ∧ Same H3 H6 ∧ os.foldl stp (zs cs) = ds ∧ (∀ i h, os[i]? = some h → (freeH cs ns ((os.take i).foldl stp (zs cs))).head? = some h) ∧ (os.length : Int) = ds.sum ∧ m = (cs.sum - ds.sum).toNat,
      ⟨_, zs cs, [], none, rfl, s5 _ _ e4, upd_same, zs_ok ok.1, fun h hh => (by cases hh), s4.trans s5, rfl, fun i h e => (by cases e), ?_, rfl⟩, ?_⟩
    · have : (zs cs).sum = 0 := by
        unfold zs
        generalize cs.length = n
        induction n with
        | zero => rfl
        | succ n ih => rw [List.replicate_succ, List.sum_cons, ih]; rfl
      rw [this]; rfl
    rintro m σ H6 ⟨ds, os, x, rfl, hp6, ho6, dok, ir, s6, fold, heads, osum, rfl⟩
    have R6 := R3.same s6
    refine ⟨_, rfl, _, rfl, _, _, _, _, rfl, rfl, SqT.of R6.1, rfl, _, _, dat_ints hp6, dat_ints R6.2.1, shaped_ints _, shaped_ints _, _, rfl, ?_⟩
    rw [if_pos rfl, eqv_list PyData.int eqv_int]
    have dsum := dok.sum
    by_cases e0 : ds = cs
    · rw [decide_eq_true e0]
      refine iteF ?_
      refine ⟨_, rfl, k o os H6 (s13.free ho3) ho6 ?_ ir (by omega) (s13.trans s6)⟩
      have := frun_append (os2 := []) heads (by rw [fold]; exact e0)
      simpa using this
    rw [decide_eq_false e0]
    refine iteT ?_
    refine ⟨fun σ' H' => ∃ m', m' < (cs.sum - ds.sum).toNat ∧ ∃ (ds os : List Int) (x : Option V), σ' = [some (.ref t), some (.ref f), some (.ref p), some (.ref o), x] ∧ H' p = some (.lst (ds.map V.int)) ∧ H' o = some (.lst (os.map V.int)) ∧ DoneOk cs ds ∧ inR cs os ∧ Same H3 H' ∧ os.foldl stp (zs cs) = ds ∧ (∀ i h, os[i]? = some h → (freeH cs ns ((os.take i).foldl stp (zs cs))).head? = some h) ∧ (os.length : Int) = ds.sum ∧ m' = (cs.sum - ds.sum).toNat, fun _ _ h => h, ?_⟩
    refine ⟨_, rfl, _, _, _, _, rfl, rfl, SqT.of R6.1, rfl, _, rfl, _, rfl, c, f, p, cs, ds, ns, rfl, R6.2.1, FA.same s6, .inl (SqL.of hp6), ok, dok.1, fun q H7 hq hq7 s7 => ?_⟩
    have s67 := s6.trans s7
    refine ⟨_, rfl, _, .inl ⟨_, SqL.of hq7, rfl⟩, ?_⟩
    cases fr : freeH cs ns ds with
    | nil =>
      refine iteT ?_
      exact kN H7 ⟨ds, dok, e0, fr⟩ (s13.trans s67)
    | cons h fr' =>
      refine iteF ?_
      rw [fr] at hq7
      have hm : h ∈ freeH cs ns ds := by rw [fr]; simp
      obtain ⟨h0, h1, hfree⟩ := mem_freeH.mp hm
      have ho7 := s7 _ _ ho6
      have hp7 := s7 _ _ hp6
      have lt := isFree_lt dok h0 h1 hfree
      refine ⟨_, rfl, .inl ⟨rfl, _, SqL.of ho7⟩, _, rfl, _, _, _, _, rfl, rfl, SqL.of hq7, atI_nat (j := 0) (v := V.int h) rfl, o, _, _, rfl, rfl, ho7, by rw [List.length_map, sizeLine_eq]; omega, ?_⟩
      have k8 : Kp o H7 (upd H7 o (.lst (os.map V.int ++ [V.int h]))) := Kp.set
      have nqo : q ≠ o := fun z => by rw [← z] at ho6; rw [ho6] at hq; cases hq
      have hp8 := k8 _ _ hp7 npo
      have hq8 := k8 _ _ hq7 nqo
      have gl : h.toNat < ds.length := by rw [dok.1]; omega
      have eg : ds[h.toNat] = gI ds h := by simp [gI, gl]
      refine ⟨_, rfl, _, rfl, _, _, _, _, rfl, rfl, SqL.of hq8, atI_nat (j := 0) (v := V.int h) rfl, _, _, _, _, rfl, rfl, SqL.of hp8, h0, (by rw [List.getElem?_map]; simp [gl]; rfl), _, _, rfl, rfl, _, _, _, _, rfl, rfl, hp8, ixN_nat h0 (by rw [List.length_map]; omega), ?_⟩
      have k9 : Kp p (upd H7 o (.lst (os.map V.int ++ [V.int h]))) (upd (upd H7 o (.lst (os.map V.int ++ [V.int h]))) p (.lst ((ds.map V.int).set h.toNat (V.int (ds[h.toNat] + 1))))) := Kp.set
      have ss := stp_sum dok h0 h1
      have ok' := stp_ok dok h0 h1 hfree
      have dsum' := ok'.sum
      refine ⟨_, ?_, stp ds h, os ++ [h], _, rfl, ?_, ?_, ok', fun z hz => ?_, fun b u e => k9 _ _ (k8 _ _ (s67 _ _ e) (ne_of_none e ho3)) (ne_of_none e hp), by rw [List.foldl_append, fold]; rfl, fun i z e => ?_, by rw [List.length_append, ss]; simp; omega, rfl⟩
      · omega
      · show (upd (upd H7 o (.lst (os.map V.int ++ [V.int h]))) p (.lst ((ds.map V.int).set h.toNat (V.int (ds[h.toNat] + 1))))) p = _
        rw [upd_same, eg, stp, List.map_set]
      · refine (k9 _ _ upd_same npo.symm).trans ?_
        simp
      · rcases List.mem_append.mp hz with hz | hz
        · exact ir z hz
        · have : z = h := by simpa using hz
          subst this
          exact ⟨h0, h1⟩
      · by_cases hi : i < os.length
        · rw [List.getElem?_append_left hi] at e
          rw [List.take_append_of_le_length (by omega)]
          exact heads i z e
        · have hi2 : i = os.length := by
            have := (List.getElem?_eq_some_iff.mp e).1
            simp at this
            omega
          subst hi2
          rw [List.take_append_of_le_length (Nat.le_refl _), List.take_length, fold, fr]
          simpa using e

def spCheckD (K : PySem.W.Frag) : Sp := fun vs H Q _ => ∃ (t c a d : Addr) (cs ds : List Int) (ns : List Nt), vs = [.ref t, .ref d] ∧ RecAt H t c a cs ns ∧ CsOk cs ∧ H d = some (.lst (ds.map V.int)) ∧ DoneOk cs ds ∧ ∀ H', Same H H' → Q .non H'
theorem ok_check_done {f : Addr} {fd : FuncData} (F : Fun K "check_done" "check_done" s_check_done f fd) (F_is_below : FnAt P w K mg base 2 "is_below" ["value", "count"] (spBelow K)) (Bt : Blt mg) : FnOk P w K mg base CX0 3 f fd ["record", "done"] (spCheckD K) := by
  refine F.ok sc_check_done (fun vs H Q E h => ?_) (fun cdv A outer s H vs Q E hr h => ?_)
  · obtain ⟨t, c, a, d, cs, ds, ns, rfl, _⟩ := h
    rfl
  · obtain ⟨t, c, a, d, cs, ds, ns, rfl, ⟨ht, hc, hN⟩, ok, hd, dok, k⟩ := h
    have hu64 := hr.units
    refine ⟨_, (pss_cons (ps_if (PW.pt (pw_or (pt_not (pt_val (pe_callB (call_isiK (K := K) (cv := .ty "list") (c := .type "list") rfl rfl) (by rfl) Bt.b_isinstance bt_isinstance (pa_cons (pv 1) (pa_cons (pe_bltn (v := .ty "list") (by rfl) Bt.b_list bt_list rfl) pa_nil))))) (pw_or1 (pt_cmpR op_ne (pe_callB (call_len_seqK (K := K) rfl) (by rfl) Bt.b_len bt_len (pa_cons (pv 1) pa_nil)) (pe_callB (call_len_seqK (K := K) rfl) (by rfl) Bt.b_len bt_len (pa_cons (pe_ix (ix_tupK (K := K) rfl) (pv 0) pe_int (fun _ _ => rfl)) pa_nil)) (nomark _))))) (pss_one ps_never) pss_nil)
      (pss_one (ps_if (pt_not (pt_val (pe_callB (call_all_boolsK (K := K) rfl rfl) (by rfl) Bt.b_all bt_all (pa_cons (pe_comp rfl (N := ["number", "count"]) (own := ["number", "count"]) (caps := []) (CompScope.of (by kernel_rfl)) (pi_zipK (K := K) rfl (by rfl) Bt.b_zip (pa_cons (pv 1) (pa_cons (pe_ix (ix_tupK (K := K) rfl) (pv 0) pe_int (fun _ _ => rfl)) pa_nil))) (fun _ _ _ _ => (pg_tupK (K := K) (n := 2) rfl rfl (pgs_cons (pg_name (i := 0) (show List.Nodup (["number", "count"] : List Str) by decide +kernel) rfl (Or.inl rfl)) (pgs_cons (pg_name (i := 1) (show List.Nodup (["number", "count"] : List Str) by decide +kernel) rfl (Or.inl rfl)) pgs_nil)))) (fun _ _ _ _ => pts_nil) (fun _ _ _ _ => (pe_fn F_is_below (hr.mono (by decide)) (by rfl) (pa_cons (pv 0) (pa_cons (pe_op op_add (pv 1) pe_int) pa_nil))))) pa_nil)))) (pss_one ps_never) pss_nil))), ?_⟩
    have c8 := ok.1
    refine ⟨_, rfl, _, _, true, rfl, .lst hd, isi_list_list K, true, rfl, ?_⟩
    refine iteF ?_
    refine ⟨_, rfl, d, _, rfl, .inl (SqL.of hd), _, rfl, _, _, _, _, rfl, rfl, SqT.of ht, rfl, c, _, rfl, .inl (SqL.of hc), rfl, _, rfl, ?_⟩
    refine iteNS (by rw [List.length_map, List.length_map, dok.1]) ?_
    refine ⟨_, rfl, _, rfl, _, _, _, _, rfl, rfl, SqT.of ht, rfl, d, c, _, _, rfl, SqL.of hd, SqL.of hc, fun D hD => ?_⟩
    refine comp_valZ (K := K) (n := cs.length) (by rw [List.length_map, dok.1]) (by rw [List.length_map]) (fun i => some (.bl true)) hD (SqL.of hd) (SqL.of hc) (by omega) (fun i x y H2 G F hi hj s2 kG kF => ?_) (fun H2 s2 e2 => ?_)
    · rw [List.getElem?_map] at hi hj
      cases ei : ds[i]? with
      | none => rw [ei] at hi; cases hi
      | some u =>
        cases ej : cs[i]? with
        | none => rw [ej] at hj; cases hj
        | some v =>
          rw [ei] at hi
          rw [ej] at hj
          cases hi
          cases hj
          have il : i < cs.length := (List.getElem?_eq_some_iff.mp ej).1
          have q := dok.2 (i : Int) (by omega) (by omega)
          rw [gI_nat ei, gI_nat ej] at q
          refine ⟨_, rfl, _, rfl, _, _, rfl, rfl, u, (v + 1).toNat, by rw [show (((v + 1).toNat : Nat) : Int) = v + 1 by omega]; rfl, ?_⟩
          rw [decide_eq_true (show inP u (v + 1).toNat from ⟨q.1, by omega⟩)]
          exact kF _ H2 (Same.refl _) rfl
    · rw [fm_const] at e2
      refine ⟨D, List.replicate cs.length true, rfl, SqL.of (by rw [e2, List.map_replicate]), _, rfl, ?_⟩
      rw [show (List.replicate cs.length true).all id = true by simp]
      refine iteF ?_
      exact k H2 s2

/-- the notes of whose touches the second alone is done -/
def isBrk (ds : List Int) (x : Nt) : Bool := decide (x.2.2.2 < gI ds x.2.2.1) && !decide (x.2.1 < gI ds x.1)
def brk (ds : List Int) (ns : List Nt) : List Nt := ns.filter (isBrk ds)
theorem dats_fm {H : Hp} (p : Nt → Bool) : ∀ {vs : List V} {ns : List Nt}, Dats H vs (ns.map nD) → Dats H ((List.range vs.length).filterMap fun i => (ns[i]?).bind fun x => if p x then vs[i]? else none) ((ns.filter p).map nD)
  | [], [], _ => by simp [Dats]
  | [], _ :: _, h => by simp only [List.map_cons, Dats] at h
  | _ :: _, [], h => by simp only [List.map_nil, Dats] at h
  | v :: vs, n :: ns, h => by
    simp only [List.map_cons, Dats] at h
    have ih := dats_fm p h.2
    have e : (List.range (v :: vs).length).filterMap (fun i => ((n :: ns)[i]?).bind fun x => if p x then (v :: vs)[i]? else none) = (if p n then [v] else []) ++ (List.range vs.length).filterMap fun i => (ns[i]?).bind fun x => if p x then vs[i]? else none := by
      rw [List.length_cons, List.range_succ_eq_map, List.filterMap_cons, List.filterMap_map]
      cases q : p n
      · simp [q]; rfl
      · simp [q]; rfl
    rw [e, List.filter_cons]
    cases q : p n
    · simpa using ih
    · simp only [if_true, List.cons_append, List.nil_append, List.map_cons, Dats]
      exact ⟨h.1, ih⟩

def spBroken (K : PySem.W.Frag) : Sp := fun vs H Q _ => ∃ (t c a d : Addr) (cs ds : List Int) (ns : List Nt), vs = [.ref t, .ref d] ∧ RecAt H t c a cs ns ∧ RecOk cs ns ∧ H d = some (.lst (ds.map V.int)) ∧ ds.length = cs.length ∧ ∀ (p : Addr) (H' : Hp), H p = none → NtsAt H' p (brk ds ns) → Same H H' → Q (.ref p) H'
theorem ok_broken {f : Addr} {fd : FuncData} (F : Fun K "broken_notes" "broken_notes" s_broken_notes f fd) (F_has : FnAt P w K mg base 1 "has" ["done", "touch"] (spHas K)) (Bt : Blt mg) : FnOk P w K mg base CX0 2 f fd ["record", "done"] (spBroken K) := by
  refine F.ok sc_broken_notes (fun vs H Q E h => ?_) (fun cdv A outer s H vs Q E hr h => ?_)
  · obtain ⟨t, c, a, d, cs, ds, ns, rfl, _⟩ := h
    rfl
  · obtain ⟨t, c, a, d, cs, ds, ns, rfl, ⟨ht, hc, hN⟩, ok, hd, dl, k⟩ := h
    have hu64 := hr.units
    obtain ⟨vs, ha, dv⟩ := id hN
    have vl : vs.length = ns.length := by rw [dv.length, List.length_map]
    have nl := ok.2.1
    refine ⟨_, (pss_one (ps_ret (pe_comp rfl (N := ["note", "done"]) (own := ["note"]) (caps := [1]) (CompScope.of (by kernel_rfl)) (pi_listK (K := K) rfl (pe_ix (ix_tupK (K := K) rfl) (pv 0) pe_int (fun _ _ => rfl))) (fun _ _ _ _ => (pg_name (i := 0) (show List.Nodup (["note", "done"] : List Str) by decide +kernel) rfl (Or.inl rfl))) (fun _ _ _ _ => (pts_one (PW.pt (pw_and (pt_val (pe_fn F_has (hr.mono (by decide)) (by rfl) (pa_cons (pv 1) (pa_cons (pe_slice (sl_tupK (K := K) rfl) (pv 0) (po_some pe_int) po_none) pa_nil)))) (pw_and1 (pt_not (pt_val (pe_fn F_has (hr.mono (by decide)) (by rfl) (pa_cons (pv 1) (pa_cons (pe_slice (sl_tupK (K := K) rfl) (pv 0) po_none (po_some pe_int)) pa_nil)))))))))) (fun _ _ _ _ => (pv 0))))), ?_⟩
    refine ⟨_, rfl, _, _, _, _, rfl, rfl, SqT.of ht, rfl, a, rfl, ⟨_, SqL.of ha⟩, fun D hD => ?_⟩
    refine comp_val (K := K) (fun i => (ns[i]?).bind fun x => if isBrk ds x then vs[i]? else none) hD (SqL.of ha) (by omega) (fun i v H2 G F hi s2 kG kF => ?_) (fun H2 s2 e2 => ?_)
    · obtain ⟨x, q, ex, rfl, hx⟩ := nts_get dv hi
      obtain ⟨⟨h0, h1⟩, ⟨k0, k1⟩, ⟨o0, o1⟩, ⟨m0, m1⟩, hne⟩ := ok.2.2 x (List.mem_of_getElem? ex)
      have hx2 := s2 _ _ hx
      have hd2 := s2 _ _ hd
      simp only [ex, Option.bind_some, hi] at kG kF
      refine ⟨_, rfl, _, rfl, _, rfl, _, _, rfl, SqT.of hx2, part4b _ rfl, fun p1 hp1 => ?_⟩
      have c2 : cutV (nV x) (some 2) none = [.int x.2.2.1, .int x.2.2.2] := cut4b ..
      rw [c2]
      have sp1 := same_new (o := HO.tup [V.int x.2.2.1, V.int x.2.2.2]) hp1
      refine ⟨d, p1, ds, _, _, rfl, .inl (SqL.of (sp1 _ _ hd2)), upd_same, o0, by omega, _, rfl, ?_⟩
      refine ite2 (fun w => ?_) (fun w => ?_)
      · refine ⟨_, rfl, _, rfl, _, rfl, _, _, rfl, SqT.of (sp1 _ _ hx2), part4a _ rfl, fun p2 hp2 => ?_⟩
        have c1 : cutV (nV x) none (some 2) = [.int x.1, .int x.2.1] := cut4a ..
        rw [c1]
        have sp2 := same_new (o := HO.tup [V.int x.1, V.int x.2.1]) hp2
        refine ⟨d, p2, ds, _, _, rfl, .inl (SqL.of (sp2 _ _ (sp1 _ _ hd2))), upd_same, h0, by omega, _, rfl, ?_⟩
        have s12 := sp1.trans sp2
        by_cases w2 : x.2.1 < gI ds x.1
        · rw [decide_eq_true w2]
          refine iteF ?_
          exact kG _ s12 (by simp [isBrk, w2])
        · rw [decide_eq_false w2]
          refine iteT ?_
          exact ⟨_, rfl, kF _ _ s12 (by simp [isBrk, w2, of_decide_eq_true w])⟩
      · have w' : ¬ x.2.2.2 < gI ds x.2.2.1 := fun z => w (decide_eq_true z)
        exact kG _ sp1 (by simp [isBrk, w'])
    · refine k D H2 hD ⟨_, e2, ?_⟩ s2
      exact dats_fm (isBrk ds) (Dats.keep s2.tups _ (imms_map _ imm_nD ns) dv)
def spIsCut (K : PySem.W.Frag) : Sp := fun vs H Q _ => ∃ (t c a d : Addr) (cs ds : List Int) (ns : List Nt), vs = [.ref t, .ref d] ∧ RecAt H t c a cs ns ∧ RecOk cs ns ∧ H d = some (.lst (ds.map V.int)) ∧ DoneOk cs ds ∧ ∀ H', Same H H' → Q (.bl (decide (brk ds ns = []))) H'
theorem ok_is_cut {f : Addr} {fd : FuncData} (F : Fun K "is_cut" "is_cut" s_is_cut f fd) (F_check_notes : FnAt P w K mg base 4 "check_notes" ["record"] (spCheckN K)) (F_check_done : FnAt P w K mg base 3 "check_done" ["record", "done"] (spCheckD K)) (F_broken_notes : FnAt P w K mg base 2 "broken_notes" ["record", "done"] (spBroken K)) (Bt : Blt mg) : FnOk P w K mg base CX0 5 f fd ["record", "cut"] (spIsCut K) := by
  refine F.ok sc_is_cut (fun vs H Q E h => ?_) (fun cdv A outer s H vs Q E hr h => ?_)
  · obtain ⟨t, c, a, d, cs, ds, ns, rfl, _⟩ := h
    rfl
  · obtain ⟨t, c, a, d, cs, ds, ns, rfl, R, ok, hd, dok, k⟩ := h
    have hu64 := hr.units
    refine ⟨_, (pss_cons (ps_expr (pe_fn F_check_notes (hr.mono (by decide)) (by rfl) (pa_cons (pv 0) pa_nil)))
      (pss_cons (ps_expr (pe_fn F_check_done (hr.mono (by decide)) (by rfl) (pa_cons (pv 0) (pa_cons (pv 1) pa_nil))))
      (pss_one (ps_ret (pe_notT (K := K) rfl (pe_fn F_broken_notes (hr.mono (by decide)) (by rfl) (pa_cons (pv 0) (pa_cons (pv 1) pa_nil)))))))), ?_⟩
    refine ⟨_, rfl, t, c, a, cs, ns, rfl, R, ok, fun H1 s1 => ?_⟩
    refine ⟨_, rfl, _, rfl, t, c, a, d, cs, ds, ns, rfl, R.same s1, ok.1, s1 _ _ hd, dok, fun H2 s2 => ?_⟩
    have s12 := s1.trans s2
    refine ⟨_, rfl, _, rfl, t, c, a, d, cs, ds, ns, rfl, R.same s12, ok, s12 _ _ hd, dok.1, fun p H3 hp N s3 => ?_⟩
    obtain ⟨vs, ha, dv⟩ := id N
    have vl : vs.length = (brk ds ns).length := by rw [dv.length, List.length_map]
    refine ⟨!vs.isEmpty, .inl ⟨vs, SqL.of ha, rfl⟩, ?_⟩
    have e : (!!vs.isEmpty) = decide (brk ds ns = []) := by
      rw [Bool.not_not]
      cases vs with
      | nil =>
        have : brk ds ns = [] := List.length_eq_zero_iff.mp vl.symm
        simp [this]
      | cons v vs =>
        have : brk ds ns ≠ [] := fun z => by rw [z] at vl; cases vl
        simp [this]
    rw [e]
    exact k H3 (s12.trans s3)

/-! ### the least and the greatest cut -/
def closed (ns : List Nt) (ds : List Int) : Prop := ∀ x ∈ ns, x.2.2.2 < gI ds x.2.2.1 → x.2.1 < gI ds x.1
theorem brk_nil {ns : List Nt} {ds : List Int} : brk ds ns = [] ↔ closed ns ds := by
  unfold brk closed
  rw [List.filter_eq_nil_iff]
  constructor
  · intro h x hx hm
    have := h x hx
    simp only [isBrk, Bool.and_eq_true, decide_eq_true_eq, Bool.not_eq_true', decide_eq_false_iff_not, not_and, Decidable.not_not] at this
    exact this hm
  · intro h x hx
    simp only [isBrk, Bool.and_eq_true, decide_eq_true_eq, Bool.not_eq_true', decide_eq_false_iff_not, not_and, Decidable.not_not]
    exact h x hx
def IsLeast (cs : List Int) (ns : List Nt) (ds L : List Int) : Prop := DoneOk cs L ∧ leL cs.length ds L ∧ closed ns L ∧ ∀ M : List Int, M.length = cs.length → leL cs.length ds M → closed ns M → leL cs.length L M
def IsGreatest (cs : List Int) (ns : List Nt) (ds L : List Int) : Prop := DoneOk cs L ∧ leL cs.length L ds ∧ closed ns L ∧ ∀ M : List Int, M.length = cs.length → leL cs.length M ds → closed ns M → leL cs.length M L
theorem IsLeast.eq {cs : List Int} {ns : List Nt} {ds L L' : List Int} (a : IsLeast cs ns ds L) (b : IsLeast cs ns ds L') : L = L' :=
  leL.eq a.1.1 b.1.1 (a.2.2.2 L' b.1.1 b.2.1 b.2.2.1) (b.2.2.2 L a.1.1 a.2.1 a.2.2.1)
theorem IsGreatest.eq {cs : List Int} {ns : List Nt} {ds L L' : List Int} (a : IsGreatest cs ns ds L) (b : IsGreatest cs ns ds L') : L = L' :=
  leL.eq a.1.1 b.1.1 (b.2.2.2 L a.1.1 a.2.1 a.2.2.1) (a.2.2.2 L' b.1.1 b.2.1 b.2.2.1)
theorem mem_brk {ds : List Int} {ns : List Nt} {x : Nt} (h : x ∈ brk ds ns) : x ∈ ns ∧ x.2.2.2 < gI ds x.2.2.1 ∧ gI ds x.1 ≤ x.2.1 := by
  obtain ⟨a, b⟩ := List.mem_filter.mp h
  simp only [isBrk, Bool.and_eq_true, decide_eq_true_eq, Bool.not_eq_true', decide_eq_false_iff_not] at b
  exact ⟨a, b.1, by omega⟩
def spLeast (K : PySem.W.Frag) : Sp := fun vs H Q _ => ∃ (t c a d : Addr) (cs ds : List Int) (ns : List Nt), vs = [.ref t, .ref d] ∧ RecAt H t c a cs ns ∧ RecOk cs ns ∧ H d = some (.lst (ds.map V.int)) ∧ DoneOk cs ds ∧ ∀ (p : Addr) (L : List Int) (H' : Hp), H p = none → H' p = some (.lst (L.map V.int)) → IsLeast cs ns ds L → Same H H' → Q (.ref p) H'
theorem ok_least {f : Addr} {fd : FuncData} (F : Fun K "least_cut" "least_cut" s_least_cut f fd) (F_check_notes : FnAt P w K mg base 4 "check_notes" ["record"] (spCheckN K)) (F_check_done : FnAt P w K mg base 3 "check_done" ["record", "done"] (spCheckD K)) (F_broken_notes : FnAt P w K mg base 2 "broken_notes" ["record", "done"] (spBroken K)) (Bt : Blt mg) : FnOk P w K mg base CX0 5 f fd ["record", "some"] (spLeast K) := by
  refine F.ok sc_least_cut (fun vs H Q E h => ?_) (fun cdv A outer s H vs Q E hr h => ?_)
  · obtain ⟨t, c, a, d, cs, ds, ns, rfl, _⟩ := h
    rfl
  · obtain ⟨t, c, a, d, cs, ds, ns, rfl, R, ok, hd, dok, k⟩ := h
    have hu64 := hr.units
    refine ⟨_, (pss_cons (ps_expr (pe_fn F_check_notes (hr.mono (by decide)) (by rfl) (pa_cons (pv 0) pa_nil)))
      (pss_cons (ps_expr (pe_fn F_check_done (hr.mono (by decide)) (by rfl) (pa_cons (pv 0) (pa_cons (pv 1) pa_nil))))
      (pss_cons (ps_set (i := 2) sc_least_cut.nd rfl (Or.inl rfl) (pe_callTy (call_list_ofK (K := K) rfl) (by rfl) Bt.b_list bt_list (pa_cons (pv 1) pa_nil)))
      (pss_cons (ps_set (i := 3) sc_least_cut.nd rfl (Or.inl rfl) (pe_fn F_broken_notes (hr.mono (by decide)) (by rfl) (pa_cons (pv 0) (pa_cons (pv 2) pa_nil))))
      (pss_cons (ps_while PassesOwn.never (pt_truthK (K := K) rfl (pv 3)) (pss_cons (ps_for PassesOwn.never rfl (pi_listK (K := K) rfl (pv 3)) (pg_name (i := 4) sc_least_cut.nd rfl (Or.inl rfl))
      (pss_one (ps_asg (pe_callB (call_max2 rfl) (by rfl) Bt.b_max bt_max (pa_cons (pe_ix (ix_listK (K := K) rfl) (pv 2) (pe_ix (ix_tupK (K := K) rfl) (pv 4) pe_int (fun _ _ => rfl)) (fun _ _ => rfl)) (pa_cons (pe_op op_add (pe_ix (ix_tupK (K := K) rfl) (pv 4) pe_int (fun _ _ => rfl)) pe_int) pa_nil))) (pg_sub (pv 2) (pe_ix (ix_tupK (K := K) rfl) (pv 4) pe_int (fun _ _ => rfl)) set_list))))
      (pss_one (ps_set (i := 3) sc_least_cut.nd rfl (Or.inl rfl) (pe_fn F_broken_notes (hr.mono (by decide)) (by rfl) (pa_cons (pv 0) (pa_cons (pv 2) pa_nil)))))))
      (pss_one (ps_ret (pv 2)))))))), ?_⟩
    refine ⟨_, rfl, t, c, a, cs, ns, rfl, R, ok, fun H1 s1 => ?_⟩
    refine ⟨_, rfl, _, rfl, t, c, a, d, cs, ds, ns, rfl, R.same s1, ok.1, s1 _ _ hd, dok, fun H2 s2 => ?_⟩
    have s12 := s1.trans s2
    refine ⟨_, rfl, d, _, rfl, .inl (SqL.of (s12 _ _ hd)), fun p hp => ?_⟩
    have s3 := same_new (o := HO.lst (ds.map V.int)) hp
    have s13 := s12.trans s3
    have hp0 : H p = none := s12.free hp
    refine ⟨_, rfl, _, rfl, t, c, a, p, cs, ds, ns, rfl, R.same s13, ok, upd_same, dok.1, fun q H4 hq N4 s4 => ?_⟩
    have s14 := s13.trans s4
    have nl := ok.2.1
    refine ⟨fun m σ H5 => ∃ (es : List Int) (q : Addr) (x : Option V), σ = [some (.ref t), some (.ref d), some (.ref p), some (.ref q), x] ∧ H5 p = some (.lst (es.map V.int)) ∧ p ≠ q ∧ NtsAt H5 q (brk es ns) ∧ DoneOk cs es ∧ leL cs.length ds es ∧ (∀ M : List Int, M.length = cs.length → leL cs.length ds M → closed ns M → leL cs.length es M) ∧ Same H H5 ∧ m = (cs.sum - es.sum).toNat,
      ⟨_, ds, q, none, rfl, s4 _ _ upd_same, ne_of_none upd_same hq, N4, dok, leL.refl _ _, fun M _ h _ => h, s14, rfl⟩, ?_⟩
    rintro m σ H5 ⟨es, q, x, rfl, hp5, npq, N5, eok, ge, up, s5, rfl⟩
    obtain ⟨vs, hq5, dv⟩ := id N5
    have vl : vs.length = (brk es ns).length := by rw [dv.length, List.length_map]
    refine ⟨_, rfl, !vs.isEmpty, .inl ⟨vs, SqL.of hq5, rfl⟩, ?_⟩
    by_cases e0 : brk es ns = []
    · have : vs = [] := List.length_eq_zero_iff.mp (by rw [vl, e0]; rfl)
      subst this
      refine iteF ?_
      exact ⟨_, rfl, k p es H5 hp0 hp5 ⟨eok, ge, brk_nil.mp e0, up⟩ s5⟩
    have hv : (!vs.isEmpty) = true := by
      cases vs with
      | nil => exact absurd (List.length_eq_zero_iff.mp vl.symm) e0
      | cons _ _ => rfl
    rw [hv]
    refine iteT ?_
    refine ⟨fun σ' H' => ∃ m', m' < (cs.sum - es.sum).toNat ∧ ∃ (es' : List Int) (q : Addr) (x : Option V), σ' = [some (.ref t), some (.ref d), some (.ref p), some (.ref q), x] ∧ H' p = some (.lst (es'.map V.int)) ∧ p ≠ q ∧ NtsAt H' q (brk es' ns) ∧ DoneOk cs es' ∧ leL cs.length ds es' ∧ (∀ M : List Int, M.length = cs.length → leL cs.length ds M → closed ns M → leL cs.length es' M) ∧ Same H H' ∧ m' = (cs.sum - es'.sum).toNat, fun _ _ h => h, ?_⟩
    refine ⟨_, rfl, q, rfl, ⟨_, SqL.of hq5⟩, ?_⟩
    refine for_list (K := K) (a := q) (xs := vs) (fun j σ H6 => ∃ (fs : List Int) (x : Option V), σ = [some (.ref t), some (.ref d), some (.ref p), some (.ref q), x] ∧ H6 p = some (.lst (fs.map V.int)) ∧ Kp p H5 H6 ∧ DoneOk cs fs ∧ leL cs.length es fs ∧ (∀ M : List Int, M.length = cs.length → leL cs.length ds M → closed ns M → leL cs.length fs M) ∧ es.sum ≤ fs.sum ∧ (j = 0 → fs = es) ∧ (0 < j → es.sum < fs.sum))
      ⟨es, x, rfl, hp5, Kp.refl _ _, eok, leL.refl _ _, up, Int.le_refl _, fun _ => rfl, fun z => absurd z (Nat.lt_irrefl _)⟩ (fun j σ H6 _ ⟨_, _, _, _, kp, _⟩ => SqL.of (kp _ _ hq5 npq.symm)) ?_ ?_
    · rintro j v σ H6 hj ⟨fs, x, rfl, hp6, kp6, fok, gef, upf, sle, sz, spos⟩
      obtain ⟨y, u, ey, rfl, hy⟩ := nts_get dv hj
      obtain ⟨ym, y2, y3⟩ := mem_brk (List.mem_of_getElem? ey)
      obtain ⟨⟨h0, h1⟩, ⟨k0, k1⟩, ⟨o0, o1⟩, ⟨m0, m1⟩, hne⟩ := ok.2.2 y ym
      have hy6 := kp6.tups hp5 _ _ hy
      refine ⟨_, rfl, _, rfl, _, _, _, _, rfl, rfl, SqT.of hy6, rfl, _, _, _, _, rfl, rfl, SqL.of hp6, atI_gI h0 (by rw [fok.1]; exact h1), _, rfl, _, _, _, _, rfl, rfl, SqT.of hy6, rfl, _, _, rfl, rfl, _, _, rfl, _, rfl, _, rfl, _, _, _, _, rfl, rfl, SqT.of hy6, rfl, _, _, _, _, rfl, rfl, hp6, ixN_nat h0 (by rw [List.length_map, fok.1]; exact h1), ?_⟩
      have qf := fok.2 y.1 h0 h1
      have gq := gef y.1 h0 h1
      generalize hw : (if y.2.1 + 1 > gI fs y.1 then y.2.1 + 1 else gI fs y.1) = w
      have w1 : gI fs y.1 ≤ w := by rw [← hw]; split <;> omega
      have w2 : w ≤ gI cs y.1 := by rw [← hw]; split <;> omega
      have w3 : y.2.1 + 1 ≤ w := by rw [← hw]; split <;> omega
      have w4 : w = gI fs y.1 ∨ w = y.2.1 + 1 := by rw [← hw]; split <;> omega
      have sm := gI_sum (ds := fs) (h := y.1) (v := w) h0 (by rw [fok.1]; exact h1)
      refine ⟨fs.set y.1.toNat w, _, rfl, ?_, kp6.trans Kp.set, fok.set h0 h1 (by omega) w2, fun i i0 i1 => ?_, fun M ml ge' cl => ?_, by omega, fun z => absurd z (by omega), fun _ => ?_⟩
      · show (upd H6 p (.lst ((fs.map V.int).set y.1.toNat (V.int w)))) p = _
        rw [upd_same, List.map_set]
      · rw [gI_set h0 (by rw [fok.1]; exact h1) i0]
        have := gef i i0 i1
        by_cases e : i = y.1
        · subst e; rw [if_pos rfl]; omega
        · rw [if_neg e]; exact this
      · intro i i0 i1
        rw [gI_set h0 (by rw [fok.1]; exact h1) i0]
        have q0 := upf M ml ge' cl i i0 i1
        by_cases e : i = y.1
        · subst e
          rw [if_pos rfl]
          have qe := up M ml ge' cl y.2.2.1 o0 o1
          have := cl y ym (by omega)
          omega
        · rw [if_neg e]; exact q0
      · by_cases j0 : j = 0
        · have := sz j0
          subst this
          omega
        · have := spos (by omega)
          omega
    · rintro σ H6 ⟨fs, x, rfl, hp6, kp6, fok, gef, upf, sle, sz, spos⟩
      have vpos : 0 < vs.length := by
        cases vs with
        | nil => cases hv
        | cons _ _ => simp
      have slt := spos vpos
      have s6 : Same H H6 := fun b o e => kp6 _ _ (s5 _ _ e) (ne_of_none e hp0)
      refine ⟨_, rfl, _, rfl, t, c, a, p, cs, fs, ns, rfl, R.same s6, ok, hp6, fok.1, fun q' H7 hq' N7 s7 => ?_⟩
      have b := fok.sum
      have be := eok.sum
      exact ⟨_, by omega, fs, q', _, rfl, s7 _ _ hp6, ne_of_none hp6 hq', N7, fok, fun i i0 i1 => Int.le_trans (ge i i0 i1) (gef i i0 i1), upf, s6.trans s7, rfl⟩
def spGreatest (K : PySem.W.Frag) : Sp := fun vs H Q _ => ∃ (t c a d : Addr) (cs ds : List Int) (ns : List Nt), vs = [.ref t, .ref d] ∧ RecAt H t c a cs ns ∧ RecOk cs ns ∧ H d = some (.lst (ds.map V.int)) ∧ DoneOk cs ds ∧ ∀ (p : Addr) (L : List Int) (H' : Hp), H p = none → H' p = some (.lst (L.map V.int)) → IsGreatest cs ns ds L → Same H H' → Q (.ref p) H'
theorem ok_greatest {f : Addr} {fd : FuncData} (F : Fun K "greatest_cut" "greatest_cut" s_greatest_cut f fd) (F_check_notes : FnAt P w K mg base 4 "check_notes" ["record"] (spCheckN K)) (F_check_done : FnAt P w K mg base 3 "check_done" ["record", "done"] (spCheckD K)) (F_broken_notes : FnAt P w K mg base 2 "broken_notes" ["record", "done"] (spBroken K)) (Bt : Blt mg) : FnOk P w K mg base CX0 5 f fd ["record", "some"] (spGreatest K) := by
  refine F.ok sc_greatest_cut (fun vs H Q E h => ?_) (fun cdv A outer s H vs Q E hr h => ?_)
  · obtain ⟨t, c, a, d, cs, ds, ns, rfl, _⟩ := h
    rfl
  · obtain ⟨t, c, a, d, cs, ds, ns, rfl, R, ok, hd, dok, k⟩ := h
    have hu64 := hr.units
    refine ⟨_, (pss_cons (ps_expr (pe_fn F_check_notes (hr.mono (by decide)) (by rfl) (pa_cons (pv 0) pa_nil)))
      (pss_cons (ps_expr (pe_fn F_check_done (hr.mono (by decide)) (by rfl) (pa_cons (pv 0) (pa_cons (pv 1) pa_nil))))
      (pss_cons (ps_set (i := 2) sc_greatest_cut.nd rfl (Or.inl rfl) (pe_callTy (call_list_ofK (K := K) rfl) (by rfl) Bt.b_list bt_list (pa_cons (pv 1) pa_nil)))
      (pss_cons (ps_set (i := 3) sc_greatest_cut.nd rfl (Or.inl rfl) (pe_fn F_broken_notes (hr.mono (by decide)) (by rfl) (pa_cons (pv 0) (pa_cons (pv 2) pa_nil))))
      (pss_cons (ps_while PassesOwn.never (pt_truthK (K := K) rfl (pv 3)) (pss_cons (ps_for PassesOwn.never rfl (pi_listK (K := K) rfl (pv 3)) (pg_name (i := 4) sc_greatest_cut.nd rfl (Or.inl rfl))
      (pss_one (ps_asg (pe_callB (call_min2 rfl) (by rfl) Bt.b_min bt_min (pa_cons (pe_ix (ix_listK (K := K) rfl) (pv 2) (pe_ix (ix_tupK (K := K) rfl) (pv 4) pe_int (fun _ _ => rfl)) (fun _ _ => rfl)) (pa_cons (pe_ix (ix_tupK (K := K) rfl) (pv 4) pe_int (fun _ _ => rfl)) pa_nil))) (pg_sub (pv 2) (pe_ix (ix_tupK (K := K) rfl) (pv 4) pe_int (fun _ _ => rfl)) set_list))))
      (pss_one (ps_set (i := 3) sc_greatest_cut.nd rfl (Or.inl rfl) (pe_fn F_broken_notes (hr.mono (by decide)) (by rfl) (pa_cons (pv 0) (pa_cons (pv 2) pa_nil)))))))
      (pss_one (ps_ret (pv 2)))))))), ?_⟩
    refine ⟨_, rfl, t, c, a, cs, ns, rfl, R, ok, fun H1 s1 => ?_⟩
    refine ⟨_, rfl, _, rfl, t, c, a, d, cs, ds, ns, rfl, R.same s1, ok.1, s1 _ _ hd, dok, fun H2 s2 => ?_⟩
    have s12 := s1.trans s2
    refine ⟨_, rfl, d, _, rfl, .inl (SqL.of (s12 _ _ hd)), fun p hp => ?_⟩
    have s3 := same_new (o := HO.lst (ds.map V.int)) hp
    have s13 := s12.trans s3
    have hp0 : H p = none := s12.free hp
    refine ⟨_, rfl, _, rfl, t, c, a, p, cs, ds, ns, rfl, R.same s13, ok, upd_same, dok.1, fun q H4 hq N4 s4 => ?_⟩
    have s14 := s13.trans s4
    have nl := ok.2.1
    refine ⟨fun m σ H5 => ∃ (es : List Int) (q : Addr) (x : Option V), σ = [some (.ref t), some (.ref d), some (.ref p), some (.ref q), x] ∧ H5 p = some (.lst (es.map V.int)) ∧ p ≠ q ∧ NtsAt H5 q (brk es ns) ∧ DoneOk cs es ∧ leL cs.length es ds ∧ (∀ M : List Int, M.length = cs.length → leL cs.length M ds → closed ns M → leL cs.length M es) ∧ Same H H5 ∧ m = es.sum.toNat,
      ⟨_, ds, q, none, rfl, s4 _ _ upd_same, ne_of_none upd_same hq, N4, dok, leL.refl _ _, fun M _ h _ => h, s14, rfl⟩, ?_⟩
    rintro m σ H5 ⟨es, q, x, rfl, hp5, npq, N5, eok, ge, up, s5, rfl⟩
    obtain ⟨vs, hq5, dv⟩ := id N5
    have vl : vs.length = (brk es ns).length := by rw [dv.length, List.length_map]
    refine ⟨_, rfl, !vs.isEmpty, .inl ⟨vs, SqL.of hq5, rfl⟩, ?_⟩
    by_cases e0 : brk es ns = []
    · have : vs = [] := List.length_eq_zero_iff.mp (by rw [vl, e0]; rfl)
      subst this
      refine iteF ?_
      exact ⟨_, rfl, k p es H5 hp0 hp5 ⟨eok, ge, brk_nil.mp e0, up⟩ s5⟩
    have hv : (!vs.isEmpty) = true := by
      cases vs with
      | nil => exact absurd (List.length_eq_zero_iff.mp vl.symm) e0
      | cons _ _ => rfl
    rw [hv]
    refine iteT ?_
    refine ⟨fun σ' H' => ∃ m', m' < es.sum.toNat ∧ ∃ (es' : List Int) (q : Addr) (x : Option V), σ' = [some (.ref t), some (.ref d), some (.ref p), some (.ref q), x] ∧ H' p = some (.lst (es'.map V.int)) ∧ p ≠ q ∧ NtsAt H' q (brk es' ns) ∧ DoneOk cs es' ∧ leL cs.length es' ds ∧ (∀ M : List Int, M.length = cs.length → leL cs.length M ds → closed ns M → leL cs.length M es') ∧ Same H H' ∧ m' = es'.sum.toNat, fun _ _ h => h, ?_⟩
    refine ⟨_, rfl, q, rfl, ⟨_, SqL.of hq5⟩, ?_⟩
    refine for_list (K := K) (a := q) (xs := vs) (fun j σ H6 => ∃ (fs : List Int) (x : Option V), σ = [some (.ref t), some (.ref d), some (.ref p), some (.ref q), x] ∧ H6 p = some (.lst (fs.map V.int)) ∧ Kp p H5 H6 ∧ DoneOk cs fs ∧ leL cs.length fs es ∧ (∀ M : List Int, M.length = cs.length → leL cs.length M ds → closed ns M → leL cs.length M fs) ∧ fs.sum ≤ es.sum ∧ (j = 0 → fs = es) ∧ (0 < j → fs.sum < es.sum))
      ⟨es, x, rfl, hp5, Kp.refl _ _, eok, leL.refl _ _, up, Int.le_refl _, fun _ => rfl, fun z => absurd z (Nat.lt_irrefl _)⟩ (fun j σ H6 _ ⟨_, _, _, _, kp, _⟩ => SqL.of (kp _ _ hq5 npq.symm)) ?_ ?_
    · rintro j v σ H6 hj ⟨fs, x, rfl, hp6, kp6, fok, gef, upf, sle, sz, spos⟩
      obtain ⟨y, u, ey, rfl, hy⟩ := nts_get dv hj
      obtain ⟨ym, y2, y3⟩ := mem_brk (List.mem_of_getElem? ey)
      obtain ⟨⟨h0, h1⟩, ⟨k0, k1⟩, ⟨o0, o1⟩, ⟨m0, m1⟩, hne⟩ := ok.2.2 y ym
      have hy6 := kp6.tups hp5 _ _ hy
      refine ⟨_, rfl, _, rfl, _, _, _, _, rfl, rfl, SqT.of hy6, rfl, _, _, _, _, rfl, rfl, SqL.of hp6, atI_gI o0 (by rw [fok.1]; exact o1), _, rfl, _, _, _, _, rfl, rfl, SqT.of hy6, rfl, _, _, rfl, _, rfl, _, rfl, _, _, _, _, rfl, rfl, SqT.of hy6, rfl, _, _, _, _, rfl, rfl, hp6, ixN_nat o0 (by rw [List.length_map, fok.1]; exact o1), ?_⟩
      have qf := fok.2 y.2.2.1 o0 o1
      have gq := gef y.2.2.1 o0 o1
      generalize hw : (if y.2.2.2 < gI fs y.2.2.1 then y.2.2.2 else gI fs y.2.2.1) = w
      have w1 : w ≤ gI fs y.2.2.1 := by rw [← hw]; split <;> omega
      have w2 : 0 ≤ w := by rw [← hw]; split <;> omega
      have w3 : w ≤ y.2.2.2 := by rw [← hw]; split <;> omega
      have w4 : w = gI fs y.2.2.1 ∨ w = y.2.2.2 := by rw [← hw]; split <;> omega
      have sm := gI_sum (ds := fs) (h := y.2.2.1) (v := w) o0 (by rw [fok.1]; exact o1)
      refine ⟨fs.set y.2.2.1.toNat w, _, rfl, ?_, kp6.trans Kp.set, fok.set o0 o1 w2 (by omega), fun i i0 i1 => ?_, fun M ml ge' cl => ?_, by omega, fun z => absurd z (by omega), fun _ => ?_⟩
      · show (upd H6 p (.lst ((fs.map V.int).set y.2.2.1.toNat (V.int w)))) p = _
        rw [upd_same, List.map_set]
      · rw [gI_set o0 (by rw [fok.1]; exact o1) i0]
        have := gef i i0 i1
        by_cases e : i = y.2.2.1
        · subst e; rw [if_pos rfl]; omega
        · rw [if_neg e]; exact this
      · intro i i0 i1
        rw [gI_set o0 (by rw [fok.1]; exact o1) i0]
        have q0 := upf M ml ge' cl i i0 i1
        by_cases e : i = y.2.2.1
        · subst e
          rw [if_pos rfl]
          have qe := up M ml ge' cl y.1 h0 h1
          have : ¬ y.2.2.2 < gI M y.2.2.1 := fun z => by
            have := cl y ym z
            omega
          omega
        · rw [if_neg e]; exact q0
      · by_cases j0 : j = 0
        · have := sz j0
          subst this
          omega
        · have := spos (by omega)
          omega
    · rintro σ H6 ⟨fs, x, rfl, hp6, kp6, fok, gef, upf, sle, sz, spos⟩
      have vpos : 0 < vs.length := by
        cases vs with
        | nil => cases hv
        | cons _ _ => simp
      have slt := spos vpos
      have s6 : Same H H6 := fun b o e => kp6 _ _ (s5 _ _ e) (ne_of_none e hp0)
      refine ⟨_, rfl, _, rfl, t, c, a, p, cs, fs, ns, rfl, R.same s6, ok, hp6, fok.1, fun q' H7 hq' N7 s7 => ?_⟩
      have b := fok.sum
      exact ⟨_, by omega, fs, q', _, rfl, s7 _ _ hp6, ne_of_none hp6 hq', N7, fok, fun i i0 i1 => Int.le_trans (gef i i0 i1) (ge i i0 i1), upf, s6.trans s7, rfl⟩

theorem fold_count {cs : List Int} : ∀ {os ds : List Int}, inR cs os → ds.length = cs.length → ∀ h : Int, 0 ≤ h → h < cs.length → gI (os.foldl stp ds) h = gI ds h + (os.count h : Nat)
  | [], ds, _, _, h, _, _ => by simp
  | x :: os, ds, ir, dl, h, h0, h1 => by
    obtain ⟨x0, x1⟩ := ir x (by simp)
    rw [List.foldl_cons, fold_count (fun z hz => ir z (by simp [hz])) (by simp [stp, dl]) h h0 h1]
    unfold stp
    rw [gI_set x0 (by omega) h0, List.count_cons]
    by_cases e : h = x
    · subst e; simp; omega
    · have : ¬ x = h := fun z => e z.symm
      simp [e, this]
theorem gI_zs (cs : List Int) (i : Int) : gI (zs cs) i = 0 := by unfold gI zs; rw [List.getElem?_replicate]; split <;> rfl

theorem le_full : ∀ (cs ds : List Int), ds.length = cs.length → (∀ (i : Nat) (c d : Int), cs[i]? = some c → ds[i]? = some d → d ≤ c) → cs.sum ≤ ds.sum → ds = cs
  | [], [], _, _, _ => rfl
  | [], _ :: _, h, _, _ => by simp at h
  | _ :: _, [], h, _, _ => by simp at h
  | c :: cs, d :: ds, hl, hp, hs => by
    have h0 : d ≤ c := hp 0 c d rfl rfl
    have tl : ∀ (i : Nat) (c d : Int), cs[i]? = some c → ds[i]? = some d → d ≤ c := fun i c d e1 e2 => hp (i + 1) c d (by simpa using e1) (by simpa using e2)
    have le : ∀ (cs ds : List Int), ds.length = cs.length → (∀ (i : Nat) (c d : Int), cs[i]? = some c → ds[i]? = some d → d ≤ c) → ds.sum ≤ cs.sum := fun cs => by
      induction cs with
      | nil => intro ds h _; rw [List.eq_nil_of_length_eq_zero h]; exact Int.le_refl _
      | cons c cs ih =>
        intro ds h p
        match ds, h with
        | d :: ds, h =>
          have := ih ds (by simpa using h) fun i c d e1 e2 => p (i + 1) c d (by simpa using e1) (by simpa using e2)
          have := p 0 c d rfl rfl
          rw [List.sum_cons, List.sum_cons]
          omega
    have l1 := le cs ds (by simpa using hl) tl
    rw [List.sum_cons, List.sum_cons] at hs
    have e : d = c := by omega
    rw [e, le_full cs ds (by simpa using hl) tl (by omega)]
theorem gI_some {l : List Int} {i : Nat} {c : Int} (h : l[i]? = some c) : gI l (i : Int) = c := by unfold gI; rw [Int.toNat_natCast, h]; rfl
theorem done_full {cs ds : List Int} (d : DoneOk cs ds) (h : cs.sum ≤ ds.sum) : ds = cs := le_full cs ds d.1 (fun i c e h1 h2 => by
  have il := (List.getElem?_eq_some_iff.mp h1).1
  have := (d.2 (i : Int) (by omega) (by omega)).2
  rw [gI_some h1, gI_some h2] at this
  exact this) h

theorem zs_sum (cs : List Int) : (zs cs).sum = 0 := by
  unfold zs
  generalize cs.length = n
  induction n with
  | zero => rfl
  | succ n ih => rw [List.replicate_succ, List.sum_cons, ih]; rfl
theorem rep_zs (n : Nat) : (List.replicate n [V.int 0]).flatten = (List.replicate n (0 : Int)).map V.int := by
  rw [List.map_replicate]
  induction n with
  | zero => rfl
  | succ n ih => rw [List.replicate_succ, List.flatten_cons, ih]; rfl

theorem comp_valP {K : PySem.W.Frag} {a D : Addr} {tc : TT} {te : TE} {Q : VK} {rest : St} {H1 : Hp} {ps : List Prs} (f : Nat → Option V) (hD : H1 D = none) (hq : PrsAt H1 a ps) (hx : ps.length ≤ 100000)
    (hs : ∀ i q H (G : Hp → Prop) (F : VK), ps[i]? = some q → Same H1 H → (∀ H', Same H H' → f i = none → G H') → (∀ y H', Same H H' → f i = some y → F y H') → tc (some (.int q.1) :: some (.int q.2) :: rest) H fun b H3 => if b = true then te (some (.int q.1) :: some (.int q.2) :: rest) H3 F else G H3)
    (hd : ∀ H, Same H1 H → H D = some (.lst ((List.range ps.length).filterMap f)) → Q (.ref D) H) : CompW (Itl K a) (gTup K 2 (gCons (gName 0) (gCons (gName 1) gNil))) tc te Q D (none :: none :: rest) H1 := by
  obtain ⟨vs, ha, dv⟩ := id hq
  have vl : vs.length = ps.length := by rw [dv.length, List.length_map]
  refine comp_list (K := K) (xs := vs) (fun i σ H => (∃ u v, σ = u :: v :: rest) ∧ Same H1 H ∧ H D = some (.lst ((List.range i).filterMap f))) ⟨⟨none, none, rfl⟩, same_new hD, upd_same⟩ (fun i σ H _ ⟨_, sm, _⟩ => SqL.of (sm _ _ ha)) ?_ (fun σ H ⟨_, sm, e⟩ => hd H sm (by rw [← vl]; exact e))
  rintro i x σ H hi ⟨⟨u, v, rfl⟩, sm, e⟩
  obtain ⟨q, t, eq, rfl, ht⟩ := prs_get dv hi
  have hil : i < vs.length := (List.getElem?_eq_some_iff.mp hi).1
  refine ⟨t, _, rfl, SqT.of (sm _ _ ht), rfl, _, _, rfl, _, _, rfl, rfl, ?_⟩
  refine hs i q H _ _ eq sm (fun H3 s3 ef => ⟨⟨_, _, rfl⟩, sm.trans s3, by rw [s3 _ _ e, fm_succ, ef]; simp⟩) (fun y H4 s4 ef => ?_)
  refine ⟨_, s4 _ _ e, ?_, ⟨_, _, rfl⟩, (sm.trans s4).newly hD, ?_⟩
  · have := fm_len f i
    rw [sizeLine_eq]; omega
  · rw [upd_same, fm_succ, ef]; rfl

/-! ### an order drawn along the notes -/
def av (cs ds : List Int) : List Int := (List.range cs.length).filterMap fun (i : Nat) => if gI ds (i : Int) < gI cs (i : Int) then some (i : Int) else none
theorem av_map (cs ds : List Int) : (List.range cs.length).filterMap (fun (i : Nat) => if gI ds (i : Int) < gI cs (i : Int) then some (V.int (0 + (i : Int))) else none) = (av cs ds).map V.int := by
  unfold av
  rw [List.map_filterMap]
  refine fm_congr _ trivial fun i _ => ?_
  by_cases q : gI ds (i : Int) < gI cs (i : Int)
  · rw [if_pos q, if_pos q]; simp
  · rw [if_neg q, if_neg q]; rfl
theorem mem_av {cs ds : List Int} {h : Int} : h ∈ av cs ds ↔ 0 ≤ h ∧ h < cs.length ∧ gI ds h < gI cs h := by
  unfold av
  rw [List.mem_filterMap]
  constructor
  · rintro ⟨i, hi, e⟩
    have hi' : i < cs.length := by simpa using hi
    by_cases q : gI ds (i : Int) < gI cs (i : Int)
    · rw [if_pos q] at e
      cases e
      exact ⟨by omega, by omega, q⟩
    · rw [if_neg q] at e
      cases e
  · rintro ⟨h0, h1, q⟩
    refine ⟨h.toNat, by simp; omega, ?_⟩
    rw [show ((h.toNat : Nat) : Int) = h by omega, if_pos q]
theorem av_len (cs ds : List Int) : (av cs ds).length ≤ cs.length := fm_len _ _
theorem av_pos {cs ds : List Int} (d : DoneOk cs ds) (l : ds.sum < cs.sum) : 0 < (av cs ds).length := by
  by_cases e : ∃ i : Nat, i < cs.length ∧ gI ds (i : Int) < gI cs (i : Int)
  · obtain ⟨i, hi, q⟩ := e
    exact List.length_pos_of_mem (mem_av.mpr ⟨by omega, by omega, q⟩)
  · have : cs.sum ≤ ds.sum := sum_le_of d.1.symm fun i hi => by
      have : ¬ gI ds (i : Int) < gI cs (i : Int) := fun z => e ⟨i, hi, z⟩
      omega
    omega
theorem stp_ok' {cs ds : List Int} {h : Int} (d : DoneOk cs ds) (h0 : 0 ≤ h) (h1 : h < cs.length) (lt : gI ds h < gI cs h) : DoneOk cs (stp ds h) := by
  have := d.2 h h0 h1
  refine ⟨by simp [stp, d.1], fun i i0 i1 => ?_⟩
  unfold stp
  rw [gI_set h0 (by rw [d.1]; exact h1) i0]
  by_cases e : i = h
  · subst e; rw [if_pos rfl]; omega
  · rw [if_neg e]; exact d.2 i i0 i1
/-- a dict of lists of touches of these hands -/
def KF (H : Hp) (f : Addr) (n m : Nat) : Prop := ∃ kvs, H f = some (.dT kvs) ∧ kvs.length ≤ m ∧ ∀ o k : Int, valV kvs [Sum.inl o, Sum.inl k] = none ∨ ∃ l ps, valV kvs [Sum.inl o, Sum.inl k] = some (.ref l) ∧ PrsAt H l ps ∧ ps.length ≤ m ∧ ∀ q ∈ ps, 0 ≤ q.1 ∧ q.1 < n
theorem KF.same {H H' : Hp} {f : Addr} {n m : Nat} (h : KF H f n m) (k : Same H H') : KF H' f n m := by
  obtain ⟨kvs, e, l, q⟩ := h
  refine ⟨kvs, k _ _ e, l, fun o k' => ?_⟩
  rcases q o k' with z | ⟨a, ps, e1, e2, e3⟩
  · exact .inl z
  · exact .inr ⟨a, ps, e1, e2.same k, e3⟩
def spKept (K : PySem.W.Frag) : Sp := fun vs H Q _ => ∃ (r b : Addr) (n : Nat) (t c a : Addr) (cs : List Int) (ns : List Nt), vs = [.ref r, .ref t] ∧ BagOk H r b n ∧ n < 137438953472 ∧ RecAt H t c a cs ns ∧ c ≠ r ∧ a ≠ r ∧ RecOk cs ns ∧ ∀ (o : Addr) (os : List Int) (H' : Hp), H o = none → H' o = some (.lst (os.map V.int)) → OrdFull cs os → BagOk H' r b (n + 2400) → Kp r H H' → Q (.ref o) H'
theorem ok_kept {f : Addr} {fd : FuncData} (F : Fun K "_law_kept" "_law_kept" s_Lkept f fd) (F_Ldraw : FnAt P w K mg base 2 "_law_draw" ["bag", "many"] (spDraw K)) (Bt : Blt mg) : FnOk P w K mg base CX0 3 f fd ["bag", "record"] (spKept K) := by
  refine F.ok sc_Lkept (fun vs H Q E h => ?_) (fun cdv A outer s H vs Q E hr h => ?_)
  · obtain ⟨r, b, n, t, c, a, cs, ns, rfl, _⟩ := h
    rfl
  · obtain ⟨r, b, n, t, c, a, cs, ns, rfl, B0, hn, R, ncr, nar, ok, k⟩ := h
    have hu := hu_of hr
    have hu64 := hr.units
    have c8 := ok.1.1
    have hsum := sum_le ok.1.2
    obtain ⟨ht, hc, nvs, ha, dn⟩ := id R
    have nvl : nvs.length = ns.length := by rw [dn.length, List.length_map]
    have nl := ok.2.1
    refine ⟨_, (pss_cons (ps_set (i := 2) sc_Lkept.nd rfl (Or.inl rfl) pe_dnewT)
      (pss_cons (ps_for PassesOwn.never rfl (pi_listK (K := K) rfl (pe_ix (ix_tupK (K := K) rfl) (pv 1) pe_int (fun _ _ => rfl))) (pg_tupK (K := K) (n := 4) rfl rfl (pgs_cons (pg_name (i := 3) sc_Lkept.nd rfl (Or.inl rfl)) (pgs_cons (pg_name (i := 4) sc_Lkept.nd rfl (Or.inl rfl)) (pgs_cons (pg_name (i := 5) sc_Lkept.nd rfl (Or.inl rfl)) (pgs_cons (pg_name (i := 6) sc_Lkept.nd rfl (Or.inl rfl)) pgs_nil)))))
      (pss_one (ps_dput hu (pv 2) (pe_tup (pa_cons (pv 5) (pa_cons (pv 6) pa_nil))) (pe_op op_cat (pe_dget2 hu (pv 2) (pe_tup (pa_cons (pv 5) (pa_cons (pv 6) pa_nil))) (pe_lst pa_nil) ⟨rfl, rfl, rfl, rfl⟩) (pe_lst (pa_cons (pe_tup (pa_cons (pv 3) (pa_cons (pv 4) pa_nil))) pa_nil))) rfl)))
      (pss_cons (ps_set (i := 7) sc_Lkept.nd rfl (Or.inr rfl) (pe_op op_rep (pe_lst (pa_cons pe_int pa_nil)) (pe_callB (call_len_seqK (K := K) rfl) (by rfl) Bt.b_len bt_len (pa_cons (pe_ix (ix_tupK (K := K) rfl) (pv 1) pe_int (fun _ _ => rfl)) pa_nil))))
      (pss_cons (ps_set (i := 8) sc_Lkept.nd rfl (Or.inl rfl) (pe_lst pa_nil))
      (pss_cons (ps_for PassesOwn.never rfl (pi_range1 (by rfl) Bt.b_range (pa_cons (pe_callB (call_sumK (K := K) rfl rfl) (by rfl) Bt.b_sum bt_sum (pa_cons (pe_ix (ix_tupK (K := K) rfl) (pv 1) pe_int (fun _ _ => rfl)) pa_nil)) pa_nil)) (pg_name (i := 9) sc_Lkept.nd rfl (Or.inl rfl))
      (pss_cons (ps_setC (i := 10) rfl sc_Lkept.nd rfl (Or.inl rfl) (N := ["hand", "now", "record"]) (own := ["hand"]) (caps := [7, 1]) (CompScope.of (by kernel_rfl)) (pi_range1 (by rfl) Bt.b_range (pa_cons (pe_callB (call_len_seqK (K := K) rfl) (by rfl) Bt.b_len bt_len (pa_cons (pv 7) pa_nil)) pa_nil)) (fun _ _ _ _ => (pg_name (i := 0) (show List.Nodup (["hand", "now", "record"] : List Str) by decide +kernel) rfl (Or.inl rfl))) (fun _ _ _ _ => (pts_one (pt_cmpR op_lt (pe_ix (ix_listK (K := K) rfl) (pv 1) (pv 0) (fun _ _ => rfl)) (pe_ix (ix_listK (K := K) rfl) (pe_ix (ix_tupK (K := K) rfl) (pv 2) pe_int (fun _ _ => rfl)) (pv 0) (fun _ _ => rfl)) (nomark _)))) (fun _ _ _ _ => (pv 0)))
      (pss_cons (ps_set (i := 11) sc_Lkept.nd rfl (Or.inl rfl) (pe_lst pa_nil))
      (pss_cons (ps_for PassesOwn.never rfl (pi_listK (K := K) rfl (pv 10)) (pg_name (i := 3) sc_Lkept.nd rfl (Or.inl rfl))
      (pss_one (ps_if (pt_val (pe_callB (call_all_boolsK (K := K) rfl rfl) (by rfl) Bt.b_all bt_all (pa_cons (pe_comp rfl (N := ["other", "k", "now"]) (own := ["other", "k"]) (caps := [7]) (CompScope.of (by kernel_rfl)) (pi_listK (K := K) rfl (pe_dget2 hu (pv 2) (pe_tup (pa_cons (pv 3) (pa_cons (pe_ix (ix_listK (K := K) rfl) (pv 7) (pv 3) (fun _ _ => rfl)) pa_nil))) (pe_lst pa_nil) ⟨rfl, rfl, rfl, rfl⟩)) (fun _ _ _ _ => (pg_tupK (K := K) (n := 2) rfl rfl (pgs_cons (pg_name (i := 0) (show List.Nodup (["other", "k", "now"] : List Str) by decide +kernel) rfl (Or.inl rfl)) (pgs_cons (pg_name (i := 1) (show List.Nodup (["other", "k", "now"] : List Str) by decide +kernel) rfl (Or.inl rfl)) pgs_nil)))) (fun _ _ _ _ => pts_nil) (fun _ _ _ _ => (pe_cmpR op_lt (pv 1) (pe_ix (ix_listK (K := K) rfl) (pv 2) (pv 0) (fun _ _ => rfl)) (nomark _)))) pa_nil))) (pss_one (ps_expr (pe_appendK (K := K) rfl (pv 11) (pa_cons (pv 3) pa_nil)))) pss_nil)))
      (pss_cons (ps_if (pt_cmpR (op_neDK (K := K) rfl hu64) (pv 11) (pe_lst pa_nil) (nomark _)) (pss_one (ps_set (i := 10) sc_Lkept.nd rfl (Or.inl rfl) (pv 11))) pss_nil)
      (pss_cons (ps_expr (pe_appendK (K := K) rfl (pv 8) (pa_cons (pe_ix (ix_listK (K := K) rfl) (pv 10) (pe_fn F_Ldraw (hr.mono (by decide)) (by rfl) (pa_cons (pv 0) (pa_cons (pe_callB (call_len_seqK (K := K) rfl) (by rfl) Bt.b_len bt_len (pa_cons (pv 10) pa_nil)) pa_nil))) (fun _ _ => rfl)) pa_nil)))
      (pss_one (ps_asg (pe_op op_add (pe_ix (ix_listK (K := K) rfl) (pv 7) (pe_ix (ix_listK (K := K) rfl) (pv 8) (pe_un un_neg pe_int) (fun _ _ => rfl)) (fun _ _ => rfl)) pe_int) (pg_sub (pv 7) (pe_ix (ix_listK (K := K) rfl) (pv 8) (pe_un un_neg pe_int) (fun _ _ => rfl)) set_list)))))))))
      (pss_one (ps_ret (pv 8)))))))), ?_⟩
    intro f hf
    have s1 := same_new (o := HO.dT []) hf
    have nfr : f ≠ r := (B0.ne hf).1
    dsimp only
    refine seq_cps (fun σ H1 => ∃ (x1 x2 x3 x4 : Option V), σ = [some (.ref r), some (.ref t), some (.ref f), x1, x2, x3, x4, none, none, none, none, none] ∧ Same H H1 ∧ KF H1 f cs.length 100) (fun D' hD' _ => ?_) ?_
    · refine ⟨_, rfl, _, _, _, _, rfl, rfl, SqT.of (s1 _ _ ht), rfl, a, rfl, ⟨_, SqL.of (s1 _ _ ha)⟩, ?_⟩
      refine for_list (K := K) (a := a) (xs := nvs) (fun i σ H2 => ∃ (x1 x2 x3 x4 : Option V), σ = [some (.ref r), some (.ref t), some (.ref f), x1, x2, x3, x4, none, none, none, none, none] ∧ Same H H2 ∧ KF H2 f cs.length i)
        ⟨none, none, none, none, rfl, s1, [], upd_same, Nat.zero_le _, fun o k => .inl rfl⟩ (fun i σ H2 _ ⟨_, _, _, _, _, sm, _⟩ => SqL.of (sm _ _ ha)) ?_ ?_
      · rintro i v σ H2 hi ⟨x1, x2, x3, x4, rfl, sm, kvs, hF, kl, hval⟩
        obtain ⟨x, w, ex, rfl, hx⟩ := nts_get dn hi
        have il : i < nvs.length := (List.getElem?_eq_some_iff.mp hi).1
        obtain ⟨⟨a0, a1⟩, _⟩ := ok.2.2 x (List.mem_of_getElem? ex)
        refine ⟨w, _, rfl, SqT.of (sm _ _ hx), rfl, _, _, rfl, _, _, rfl, _, _, rfl, _, _, rfl, rfl, ?_⟩
        -- firsts.get((other, m), [])
        refine ⟨_, rfl, f, rfl, .inr ⟨_, .inl hF⟩, _, rfl, _, rfl, (by show 2 ≤ sizeLine; decide), fun t1 ht1 => ?_⟩
        have u1 := same_new (o := HO.tup [V.int x.2.2.1, V.int x.2.2.2]) ht1
        refine ⟨(by show 0 ≤ sizeLine; decide), fun e he => ?_⟩
        have u2 := same_new (o := HO.lst []) he
        have u12 := u1.trans u2
        refine ⟨_, DGet.t (k := [Sum.inl x.2.2.1, Sum.inl x.2.2.2]) (u12 _ _ hF) (u2 _ _ upd_same), ?_⟩
        obtain ⟨l, ps, el, PL, pl, pok⟩ : ∃ (l : Addr) (ps : List Prs), (valV kvs [Sum.inl x.2.2.1, Sum.inl x.2.2.2]).getD (V.ref e) = .ref l ∧ PrsAt (upd (upd H2 t1 (.tup [V.int x.2.2.1, V.int x.2.2.2])) e (.lst [])) l ps ∧ ps.length ≤ i ∧ ∀ q ∈ ps, 0 ≤ q.1 ∧ q.1 < cs.length := by
          rcases hval x.2.2.1 x.2.2.2 with z | ⟨l, ps, e1, e2, e3, e4⟩
          · exact ⟨e, [], by rw [z]; rfl, ⟨[], upd_same, by simp [Dats]⟩, by simp, fun q hq => by cases hq⟩
          · exact ⟨l, ps, by rw [e1]; rfl, e2.same u12, e3, e4⟩
        rw [el]
        -- + [(hand, k)]
        refine ⟨_, rfl, _, rfl, (by show 2 ≤ sizeLine; decide), fun t2 ht2 => ?_⟩
        have u3 := same_new (o := HO.tup [V.int x.1, V.int x.2.1]) ht2
        refine ⟨(by show 1 ≤ sizeLine; decide), fun l2 hl2 => ?_⟩
        have u4 := same_new (o := HO.lst [V.ref t2]) hl2
        have PL4 := (PL.same u3).same u4
        obtain ⟨ws, hl4, dl4⟩ := id PL4
        have wl : ws.length = ps.length := by rw [dl4.length, List.length_map]
        refine ⟨l, l2, _, _, rfl, rfl, hl4, upd_same, by rw [sizeLine_eq]; simp; omega, fun l3 hl3 => ?_⟩
        have u5 := same_new (o := HO.lst (ws ++ [V.ref t2])) hl3
        refine ⟨_, rfl, _, rfl, _, rfl, (by show 2 ≤ sizeLine; decide), fun t3 ht3 => ?_⟩
        have u6 := same_new (o := HO.tup [V.int x.2.2.1, V.int x.2.2.2]) ht3
        have u16 := (((u12.trans u3).trans u4).trans u5).trans u6
        have hF6 := u16 _ _ hF
        refine ⟨f, _, rfl, DPut.t (k := [Sum.inl x.2.2.1, Sum.inl x.2.2.2]) hF6 upd_same (by rw [sizeLine_eq]; omega), ?_⟩
        refine ⟨_, _, _, _, rfl, ?_, ⟨_, upd_same, ?_, fun o k => ?_⟩⟩
        · intro q u e
          rw [upd_ne (ne_of_none e hf)]
          exact u16 _ _ (sm _ _ e)
        · exact Nat.le_trans (length_putK ..) (by omega)
        · have keep : ∀ {l : Addr} {ps : List Prs}, PrsAt _ l ps → PrsAt _ l ps := fun {l ps} (P : PrsAt (upd (upd (upd (upd (upd (upd H2 t1 (.tup [V.int x.2.2.1, V.int x.2.2.2])) e (.lst [])) t2 (.tup [V.int x.1, V.int x.2.1])) l2 (.lst [V.ref t2])) l3 (.lst (ws ++ [V.ref t2]))) t3 (.tup [V.int x.2.2.1, V.int x.2.2.2])) l ps) => by
            obtain ⟨us, g1, g2⟩ := P
            refine (⟨us, ?_, ?_⟩ : PrsAt (upd (upd (upd (upd (upd (upd (upd H2 t1 (.tup [V.int x.2.2.1, V.int x.2.2.2])) e (.lst [])) t2 (.tup [V.int x.1, V.int x.2.1])) l2 (.lst [V.ref t2])) l3 (.lst (ws ++ [V.ref t2]))) t3 (.tup [V.int x.2.2.1, V.int x.2.2.2])) f (.dT (putK kvs [Sum.inl x.2.2.1, Sum.inl x.2.2.2] (V.ref l3)))) l ps)
            · rw [upd_ne (ne_of g1 hF6 (by intro z; cases z))]; exact g1
            · exact Dats.keep (fun a xs h => by rw [upd_ne (ne_of h hF6 (by intro z; cases z))]; exact h) _ (imms_map _ imm_pD _) g2
          rw [valV_put]
          by_cases e : ([Sum.inl o, Sum.inl k] : List Key) = [Sum.inl x.2.2.1, Sum.inl x.2.2.2]
          · rw [if_pos e]
            refine .inr ⟨l3, ps ++ [(x.1, x.2.1)], rfl, keep ⟨_, u6 _ _ upd_same, ?_⟩, by simp; omega, fun q hq => ?_⟩
            · rw [List.map_append]
              refine Dats.append (Dats.keep (fun a xs h => u6.tups _ _ (u5.tups _ _ h)) _ (imms_map _ imm_pD _) dl4) (dats1 (dat_prs (x := (x.1, x.2.1)) (u6 _ _ (u5 _ _ (u4 _ _ upd_same)))))
            · rcases List.mem_append.mp hq with hq | hq
              · exact pok q hq
              · have : q = (x.1, x.2.1) := by simpa using hq
                subst this
                exact ⟨a0, a1⟩
          · rw [if_neg e]
            rcases hval o k with z | ⟨l', ps', e1, e2, e3, e4⟩
            · exact .inl z
            · exact .inr ⟨l', ps', e1, keep (e2.same u16), by omega, e4⟩
      · rintro σ H2 ⟨x1, x2, x3, x4, rfl, sm, kvs, hF, kl, hval⟩
        refine hD' _ _ ⟨x1, x2, x3, x4, rfl, sm, kvs, hF, by omega, fun o k => ?_⟩
        rcases hval o k with z | ⟨l', ps', e1, e2, e3, e4⟩
        · exact .inl z
        · exact .inr ⟨l', ps', e1, e2, by omega, e4⟩
    rintro σ H1 ⟨x1, x2, x3, x4, rfl, s1, F1⟩
    have R1 := R.same s1
    have B1 := B0.keep s1
    -- now = [0] * len(record[0])
    refine ⟨(by show 1 ≤ sizeLine; decide), fun l hl => ?_⟩
    have s2 := same_new (o := HO.lst [V.int 0]) hl
    have R2 := R1.same s2
    refine ⟨_, rfl, _, _, _, _, rfl, rfl, SqT.of R2.1, rfl, c, _, rfl, .inl (SqL.of R2.2.1), l, _, _, rfl, rfl, upd_same, by rw [List.length_map]; omega, by rw [List.length_map]; omega, by rw [List.length_map, sizeLine_eq]; simp; omega, fun p hp => ?_⟩
    have e0 : (List.replicate (((cs.map V.int).length : Nat) : Int).toNat [V.int 0]).flatten = (zs cs).map V.int := by
      rw [rep_zs, List.length_map]; rfl
    rw [e0]
    have s3 := same_new (o := HO.lst ((zs cs).map V.int)) hp
    have s13 := (s1.trans s2).trans s3
    have hp0 : H p = none := (s1.trans s2).free hp
    obtain ⟨npr, npb⟩ := B0.ne hp0
    refine ⟨(by show 0 ≤ sizeLine; decide), fun o ho => ?_⟩
    have s4 := same_new (o := HO.lst []) ho
    have s14 := s13.trans s4
    have ho0 : H o = none := s13.free ho
    obtain ⟨nor, nob⟩ := B0.ne ho0
    have npo : p ≠ o := ne_of_none upd_same ho
    have R4 := R.same s14
    have F4 := ((F1.same s2).same s3).same s4
    have nfp : f ≠ p := fun z => by
      obtain ⟨kvs, e, _⟩ := F1
      rw [z] at e
      have := s2.free hp
      rw [e] at this; cases this
    have nfo : f ≠ o := fun z => by
      obtain ⟨kvs, e, _⟩ := F1
      rw [z] at e
      have := (s2.trans s3).free ho
      rw [e] at this; cases this
    have frl : ∀ {q : Addr}, (upd (upd (upd H1 l (.lst [V.int 0])) p (.lst ((zs cs).map V.int))) o (.lst [])) q = none → H1 q = none := fun e => ((s2.trans s3).trans s4).free e
    refine ⟨_, rfl, _, _, _, _, rfl, rfl, SqT.of R4.1, rfl, c, cs, rfl, SqL.of R4.2.1, cs.sum, rfl, by omega, by omega, ?_⟩
    -- what is kept of the first lists: only now and order are written
    refine for_range (lo := 0) (n := cs.sum.toNat) (fun i σ H5 => ∃ (ds os : List Int) (x1 x2 x3 x4 x5 x6 x7 : Option V), σ = [some (.ref r), some (.ref t), some (.ref f), x1, x2, x3, x4, some (.ref p), some (.ref o), x5, x6, x7] ∧ H5 p = some (.lst (ds.map V.int)) ∧ H5 o = some (.lst (os.map V.int)) ∧ DoneOk cs ds ∧ ds.sum = i ∧ os.length = i ∧ inR cs os ∧ os.foldl stp (zs cs) = ds ∧ BagOk H5 r b (n + i) ∧ Kp r H1 H5)
      ⟨zs cs, [], x1, x2, x3, x4, none, none, none, rfl, s4 _ _ upd_same, upd_same, zs_ok ok.1, zs_sum cs, rfl, (fun h hh => by cases hh), rfl, B0.keep s14, .of_same ((s2.trans s3).trans s4)⟩ ?_ ?_
    · rintro i σ H5 hi ⟨ds, os, x1, x2, x3, x4, x5, x6, x7, rfl, hp5, ho5, dok, dsum, ol, oir, ofl, B5, k5⟩
      have dl := dok.1
      have tp5 : ∀ a xs, H1 a = some (HO.tup xs) → H5 a = some (HO.tup xs) := B1.tups k5
      have F5 : KF H5 f cs.length 100 := by
        obtain ⟨kvs, e, l, q⟩ := F1
        refine ⟨kvs, k5 _ _ e nfr, l, fun o' k' => ?_⟩
        rcases q o' k' with z | ⟨l', ps, e1, ⟨us, g1, g2⟩, e3⟩
        · exact .inl z
        · by_cases er : l' = r
          · subst er
            exfalso
            obtain ⟨ns', i', f', c', t', h1, _⟩ := B1
            rw [h1] at g1
            cases g1
            obtain ⟨d, ed, dd⟩ := g2.get (i := 0) (v := V.ref b) rfl
            rw [List.getElem?_map] at ed
            cases ep : ps[0]? with
            | none => rw [ep] at ed; cases ed
            | some q0 =>
              rw [ep] at ed
              cases ed
              obtain ⟨t0, e0, ht0⟩ := dat_prs_inv dd
              cases e0
              obtain ⟨_, _, _, _, _, _, hb0, _⟩ := B0
              rw [s1 _ _ hb0] at ht0
              cases ht0
          · exact .inr ⟨l', ps, e1, ⟨us, k5 _ _ g1 er, Dats.keep tp5 _ (imms_map _ imm_pD _) g2⟩, e3⟩
      obtain ⟨yl1, hl1⟩ := B1.lst
      have R5 := R1.kp hl1 k5 ncr nar
      -- some
      refine ⟨_, rfl, p, _, rfl, .inl (SqL.of hp5), _, rfl, by rw [List.length_map]; omega, by rw [List.length_map]; omega, fun D hD => ?_⟩
      have lnm : (((ds.map V.int).length : Nat) : Int).toNat = cs.length := by simp [dl]
      rw [lnm]
      refine comp_valR (fun (i : Nat) => if gI ds (i : Int) < gI cs (i : Int) then some (V.int (0 + (i : Int))) else none) hD (by omega) (fun j H6 G F hj s6 kG kF => ?_) (fun H6 s6 e6 => ?_)
      · have ej : (0 + (j : Int)) = (j : Int) := by omega
        refine ⟨_, rfl, _, rfl, _, _, _, _, rfl, rfl, SqL.of (s6 _ _ hp5), atI_gI (h := 0 + (j : Int)) (by omega) (by omega), _, rfl, _, _, _, _, rfl, rfl, SqT.of (s6 _ _ R5.1), rfl, _, rfl, _, _, _, _, rfl, rfl, SqL.of (s6 _ _ R5.2.1), atI_gI (h := 0 + (j : Int)) (by omega) (by omega), _, _, rfl, rfl, _, rfl, ?_⟩
        rw [ej]
        refine ite2 (fun q => ?_) (fun q => ?_)
        · have q := of_decide_eq_true q
          exact ⟨_, rfl, kF _ H6 (Same.refl _) (by rw [if_pos q, ej])⟩
        · have q : ¬ gI ds (j : Int) < gI cs (j : Int) := fun z => q (decide_eq_true z)
          exact kG H6 (Same.refl _) (if_neg q)
      rw [av_map] at e6
      have avp : 0 < (av cs ds).length := av_pos dok (by omega)
      have av8 := av_len cs ds
      -- free = []
      refine ⟨(by show 0 ≤ sizeLine; decide), fun g hg => ?_⟩
      have s7 := same_new (o := HO.lst []) hg
      have s67 := s6.trans s7
      have e7 := s7 _ _ e6
      have hg5 : H5 g = none := s6.free hg
      have ngD : g ≠ D := fun z => by rw [z] at hg; rw [e6] at hg; cases hg
      dsimp only
      refine seq_cps (fun σ H8 => ∃ (fs : List Int) (x1 : Option V), σ = [some (.ref r), some (.ref t), some (.ref f), x1, x2, x3, x4, some (.ref p), some (.ref o), some (.int (0 + i)), some (.ref D), some (.ref g)] ∧ H8 g = some (.lst (fs.map V.int)) ∧ (∀ h ∈ fs, h ∈ av cs ds) ∧ fs.length ≤ 8 ∧ Same H5 H8 ∧ H8 D = some (.lst ((av cs ds).map V.int))) (fun D' hD' _ => ?_) ?_
      · refine ⟨_, rfl, D, rfl, ⟨_, SqL.of e7⟩, ?_⟩
        refine for_list (K := K) (a := D) (xs := (av cs ds).map V.int) (fun j σ H8 => ∃ (fs : List Int) (x1 : Option V), σ = [some (.ref r), some (.ref t), some (.ref f), x1, x2, x3, x4, some (.ref p), some (.ref o), some (.int (0 + i)), some (.ref D), some (.ref g)] ∧ H8 g = some (.lst (fs.map V.int)) ∧ (∀ h ∈ fs, h ∈ av cs ds) ∧ fs.length ≤ j ∧ Same H5 H8 ∧ H8 D = some (.lst ((av cs ds).map V.int)))
          ⟨[], x1, rfl, upd_same, fun h hh => (by cases hh), Nat.le_refl _, s67, e7⟩ (fun j σ H8 _ ⟨_, _, _, _, _, _, _, e⟩ => SqL.of e) ?_ ?_
        · rintro j v σ H8 hj ⟨fs, x1, rfl, hg8, fok, fl, s8, e8⟩
          rw [List.getElem?_map] at hj
          cases ej : (av cs ds)[j]? with
          | none => rw [ej] at hj; cases hj
          | some h =>
            rw [ej] at hj
            cases hj
            have hm := List.mem_of_getElem? ej
            obtain ⟨h0, h1, h2⟩ := mem_av.mp hm
            have jl := (List.getElem?_eq_some_iff.mp ej).1
            obtain ⟨kvs, hF, kl, hval⟩ := F5.same s8
            have hp8 := s8 _ _ hp5
            refine ⟨_, rfl, f, rfl, .inr ⟨_, .inl hF⟩, _, rfl, _, rfl, _, rfl, _, _, _, _, rfl, rfl, SqL.of hp8, atI_gI h0 (by omega), (by show 2 ≤ sizeLine; decide), fun t1 ht1 => ?_⟩
            have u1 := same_new (o := HO.tup [V.int h, V.int (gI ds h)]) ht1
            refine ⟨(by show 0 ≤ sizeLine; decide), fun e he => ?_⟩
            have u2 := same_new (o := HO.lst []) he
            have u12 := u1.trans u2
            refine ⟨_, DGet.t (k := [Sum.inl h, Sum.inl (gI ds h)]) (u12 _ _ hF) (u2 _ _ upd_same), ?_⟩
            obtain ⟨l', ps, el, PL, pl, pok⟩ : ∃ (l' : Addr) (ps : List Prs), (valV kvs [Sum.inl h, Sum.inl (gI ds h)]).getD (V.ref e) = .ref l' ∧ PrsAt (upd (upd H8 t1 (.tup [V.int h, V.int (gI ds h)])) e (.lst [])) l' ps ∧ ps.length ≤ 100 ∧ ∀ q ∈ ps, 0 ≤ q.1 ∧ q.1 < cs.length := by
              rcases hval h (gI ds h) with z | ⟨l', ps, e1, e2, e3, e4⟩
              · exact ⟨e, [], by rw [z]; rfl, ⟨[], upd_same, by simp [Dats]⟩, by simp, fun q hq => by cases hq⟩
              · exact ⟨l', ps, by rw [e1]; rfl, e2.same u12, e3, e4⟩
            rw [el]
            obtain ⟨vs', hl', _⟩ := id PL
            refine ⟨l', rfl, ⟨_, SqL.of hl'⟩, fun D3 hD3 => ?_⟩
            refine comp_valP (K := K) (fun i => (ps[i]?).map fun q => V.bl (decide (q.2 < gI ds q.1))) hD3 PL (by omega) (fun i' q H9 G F hi' s9 kG kF => ?_) (fun H9 s9 e9 => ?_)
            · obtain ⟨q0, q1⟩ := pok q (List.mem_of_getElem? hi')
              exact ⟨_, rfl, _, rfl, _, rfl, _, _, _, _, rfl, rfl, SqL.of (s9 _ _ (u12 _ _ hp8)), atI_gI q0 (by omega), _, _, rfl, rfl, kF _ H9 (Same.refl _) (by rw [hi']; rfl)⟩
            rw [fm_some] at e9
            refine ⟨D3, ps.map (fun q => decide (q.2 < gI ds q.1)), rfl, SqL.of (by rw [e9, List.map_map]; rfl), _, rfl, ?_⟩
            have s89 := u12.trans s9
            refine ite2 (fun _ => ?_) (fun _ => ?_)
            · have hg9 := s89 _ _ hg8
              refine ⟨_, rfl, .inl ⟨rfl, _, SqL.of hg9⟩, _, rfl, g, _, _, rfl, rfl, hg9, by rw [List.length_map, sizeLine_eq]; omega, ?_⟩
              have kG : Kp g H9 (upd H9 g (.lst (fs.map V.int ++ [V.int h]))) := Kp.set
              refine ⟨fs ++ [h], _, rfl, by rw [upd_same]; simp, fun z hz => ?_, by simp; omega, fun q u e => kG _ _ ((s8.trans s89) _ _ e) (ne_of_none e hg5), kG _ _ (s89 _ _ e8) ngD.symm⟩
              rcases List.mem_append.mp hz with hz | hz
              · exact fok z hz
              · have : z = h := by simpa using hz
                subst this
                exact hm
            · exact ⟨fs, _, rfl, s89 _ _ hg8, fok, by omega, s8.trans s89, s89 _ _ e8⟩
        · rintro σ H8 ⟨fs, x1, rfl, hg8, fok, fl, s8, e8⟩
          rw [List.length_map] at fl
          exact hD' _ _ ⟨fs, x1, rfl, hg8, fok, by omega, s8, e8⟩
      rintro σ H8 ⟨fs, x1, rfl, hg8, fok, fl, s8, e8⟩
      -- if free != []: some = free
      refine seq_cps (fun σ H9 => ∃ (D' : Addr) (us : List Int), σ = [some (.ref r), some (.ref t), some (.ref f), x1, x2, x3, x4, some (.ref p), some (.ref o), some (.int (0 + i)), some (.ref D'), some (.ref g)] ∧ H9 D' = some (.lst (us.map V.int)) ∧ H5 D' = none ∧ 0 < us.length ∧ us.length ≤ 8 ∧ (∀ h ∈ us, h ∈ av cs ds) ∧ Same H5 H9) (fun D' hD' _ => ?_) ?_
      · refine ⟨_, rfl, (by show 0 ≤ sizeLine; decide), fun e he => ?_⟩
        have u1 := same_new (o := HO.lst []) he
        refine ⟨_, _, dat_ints (u1 _ _ hg8), dat_ints (ns := []) upd_same, shaped_ints _, shaped_ints _, _, rfl, ?_⟩
        rw [if_pos rfl, eqv_list PyData.int eqv_int]
        by_cases e0 : fs = []
        · rw [decide_eq_true e0]
          refine iteF ?_
          exact hD' _ _ ⟨D, av cs ds, rfl, u1 _ _ e8, hD, avp, by omega, fun h hh => hh, s8.trans u1⟩
        · rw [decide_eq_false e0]
          refine iteT ?_
          exact ⟨_, rfl, hD' _ _ ⟨g, fs, rfl, u1 _ _ hg8, hg5, List.length_pos_iff.mpr e0, fl, fok, s8.trans u1⟩⟩
      rintro σ H9 ⟨D', us, rfl, hD9, hD5, up, u8, uok, s9⟩
      have B9 := B5.keep s9
      have nDr : D' ≠ r := (B5.ne hD5).1
      have ho9 := s9 _ _ ho5
      have hp9 := s9 _ _ hp5
      refine ⟨_, rfl, .inl ⟨rfl, _, SqL.of ho9⟩, _, rfl, _, rfl, _, rfl, D', _, rfl, .inl (SqL.of hD9), r, b, _, _, rfl, B9, by omega, by rw [List.length_map]; omega, by rw [List.length_map]; omega, fun z H10 z0 z1 B10 k10 => ?_⟩
      rw [List.length_map] at z1
      obtain ⟨m, rfl⟩ := Int.eq_ofNat_of_zero_le z0
      have hm : m < us.length := by omega
      have eh : us[m]? = some us[m] := by simp [hm]
      obtain ⟨h0, h1, h2⟩ := mem_av.mp (uok _ (List.mem_of_getElem? eh))
      generalize us[m] = h at eh h0 h1 h2
      have ho10 := k10 _ _ ho9 nor
      have hp10 := k10 _ _ hp9 npr
      refine ⟨_, _, _, _, rfl, rfl, SqL.of (k10 _ _ hD9 nDr), atI_nat (v := V.int h) (by rw [List.getElem?_map, eh]; rfl), o, _, _, rfl, rfl, ho10, by rw [List.length_map, sizeLine_eq]; omega, ?_⟩
      have k11 : Kp o H10 (upd H10 o (.lst (os.map V.int ++ [V.int h]))) := Kp.set
      have hp11 := k11 _ _ hp10 npo
      have ho11 : (upd H10 o (.lst (os.map V.int ++ [V.int h]))) o = some (.lst (os.map V.int ++ [V.int h])) := upd_same
      refine ⟨_, rfl, _, rfl, _, rfl, _, _, _, _, rfl, rfl, SqL.of ho11, atI_last _ _, _, _, _, _, rfl, rfl, SqL.of hp11, atI_gI h0 (by omega), _, _, rfl, rfl, _, rfl, _, rfl, _, rfl, _, _, _, _, rfl, rfl, SqL.of ho11, atI_last _ _, _, _, _, _, rfl, rfl, hp11, ixN_nat h0 (by rw [List.length_map]; omega), ?_⟩
      have k12 : Kp p (upd H10 o (.lst (os.map V.int ++ [V.int h]))) (upd (upd H10 o (.lst (os.map V.int ++ [V.int h]))) p (.lst ((ds.map V.int).set h.toNat (V.int (gI ds h + 1))))) := Kp.set
      refine ⟨stp ds h, os ++ [h], _, _, _, _, _, _, _, rfl, ?_, ?_, stp_ok' dok h0 h1 h2, by rw [stp_sum dok h0 h1, dsum]; simp, by simp [ol], (fun z hz => by
        rcases List.mem_append.mp hz with hz | hz
        · exact oir z hz
        · have : z = h := by simpa using hz
          subst this
          exact ⟨h0, h1⟩), by rw [List.foldl_append, ofl]; rfl, ((B10.kp k11 nor.symm nob.symm).kp k12 npr.symm npb.symm).mono (by omega), ?_⟩
      · show (upd (upd H10 o (.lst (os.map V.int ++ [V.int h]))) p (.lst ((ds.map V.int).set h.toNat (V.int (gI ds h + 1))))) p = _
        rw [upd_same, stp, List.map_set]
      · refine (k12 _ _ ho11 npo.symm).trans ?_
        simp
      · intro q u e nq
        have n1 : q ≠ o := ne_of_none e ((s2.trans s3).free ho)
        have n2 : q ≠ p := ne_of_none e (s2.free hp)
        exact k12 _ _ (k11 _ _ (k10 _ _ (s9 _ _ (k5 _ _ e nq)) nq) n1) n2
    · rintro σ H5 ⟨ds, os, x1, x2, x3, x4, x5, x6, x7, rfl, hp5, ho5, dok, dsum, ol, oir, ofl, B5, k5⟩
      have dcs : ds = cs := done_full dok (by omega)
      refine ⟨_, rfl, k o os H5 ho0 ho5 ⟨oir, by omega, fun h h0 h1 => ?_⟩ (B5.mono (by omega)) fun q u e nq => k5 _ _ (s1 _ _ e) nq⟩
      have := fold_count oir (ds := zs cs) (by simp [zs]) h h0 h1
      rw [ofl, dcs] at this
      have z : gI (zs cs) h = 0 := by unfold gI zs; rw [List.getElem?_replicate]; split <;> rfl
      omega

/-! ### how many orders: by the first turn -/
def cntW (cs : List Int) (ns : List Nt) : Nat → List Int → Nat
  | 0, ds => if ds = cs then 1 else 0
  | n + 1, ds => ((freeH cs ns ds).map fun h => cntW cs ns n (stp ds h)).sum
def sumF (p : Int → Bool) (f : Int → Nat) (n : Nat) : Nat := ((List.range n).map fun i : Nat => if p (i : Int) = true then f (i : Int) else 0).sum
theorem sum_fm (p : Int → Bool) (f : Int → Nat) : ∀ l : List Nat, ((l.filterMap fun i : Nat => if p (i : Int) then some (i : Int) else none).map f).sum = (l.map fun i : Nat => if p (i : Int) = true then f (i : Int) else 0).sum
  | [] => rfl
  | i :: l => by
    rw [List.filterMap_cons, List.map_cons, List.sum_cons, ← sum_fm p f l]
    cases e : p (i : Int) with
    | true => simp
    | false => simp
theorem free_sum (cs : List Int) (ns : List Nt) (ds : List Int) (f : Int → Nat) : ((freeH cs ns ds).map f).sum = sumF (isFree cs ns ds) f cs.length := sum_fm (isFree cs ns ds) f (List.range cs.length)
theorem cnt_succ (cs : List Int) (ns : List Nt) (n : Nat) (ds : List Int) : cntW cs ns (n + 1) ds = sumF (isFree cs ns ds) (fun h => cntW cs ns n (stp ds h)) cs.length := free_sum cs ns ds _
theorem sumF_succ (p : Int → Bool) (f : Int → Nat) (n : Nat) : sumF p f (n + 1) = sumF p f n + (if p (n : Int) = true then f (n : Int) else 0) := by
  unfold sumF
  rw [List.range_succ, List.map_append, List.sum_append]
  simp
theorem sumF_zero {p : Int → Bool} {f : Int → Nat} : ∀ (n : Nat), (∀ h : Int, 0 ≤ h → h < n → p h = true → f h = 0) → sumF p f n = 0
  | 0, _ => rfl
  | n + 1, e => by
    rw [sumF_succ, sumF_zero n fun h h0 h1 => e h h0 (by omega)]
    cases q : p (n : Int) with
    | true => rw [if_pos rfl, e n (by omega) (by omega) q]
    | false => rfl
theorem sumF_ge {p : Int → Bool} {f : Int → Nat} {h : Int} : ∀ (n : Nat), 0 ≤ h → h < n → p h = true → f h ≤ sumF p f n
  | 0, h0, h1, _ => by omega
  | n + 1, h0, h1, e => by
    rw [sumF_succ]
    by_cases z : h = n
    · subst z; rw [if_pos e]; omega
    · have := sumF_ge (f := f) n h0 (by omega) e; omega
theorem frun_cnt {cs : List Int} {ns : List Nt} : ∀ {os ds : List Int}, frun cs ns os ds → 1 ≤ cntW cs ns os.length ds
  | [], ds, h => by
    have h : ds = cs := h
    show 1 ≤ if ds = cs then 1 else 0
    rw [if_pos h]; decide
  | x :: os, ds, h => by
    obtain ⟨h1, h2⟩ := h
    have := frun_cnt h2
    have m : x ∈ freeH cs ns ds := List.mem_of_head? h1
    obtain ⟨x0, x1, fr⟩ := mem_freeH.mp m
    rw [List.length_cons, cnt_succ]
    exact Nat.le_trans this (sumF_ge (f := fun h => cntW cs ns os.length (stp ds h)) cs.length x0 x1 fr)
theorem frun_len {cs : List Int} {ns : List Nt} : ∀ {os ds : List Int}, DoneOk cs ds → frun cs ns os ds → (os.length : Int) = cs.sum - ds.sum
  | [], ds, _, h => by
    have h : ds = cs := h
    rw [h, List.length_nil]; omega
  | x :: os, ds, d, h => by
    obtain ⟨h1, h2⟩ := h
    obtain ⟨x0, x1, fr⟩ := mem_freeH.mp (List.mem_of_head? h1)
    have := frun_len (stp_ok d x0 x1 fr) h2
    rw [stp_sum d x0 x1] at this
    rw [List.length_cons]
    omega
theorem gI_stp {cs ds : List Int} {h g : Int} (dl : ds.length = cs.length) (h0 : 0 ≤ h) (h1 : h < cs.length) (g0 : 0 ≤ g) : gI (stp ds h) g = gI ds g + (if g = h then 1 else 0) := by
  unfold stp
  rw [gI_set h0 (by omega) g0]
  by_cases e : g = h
  · subst e; rw [if_pos rfl, if_pos rfl]
  · rw [if_neg e, if_neg e]; omega
theorem free_iff {cs : List Int} {ns : List Nt} {ds : List Int} {h : Int} : isFree cs ns ds h = true ↔ gI ds h ≠ gI cs h ∧ ∀ x ∈ ns, x.2.2.1 = h → x.2.2.2 = gI ds h → x.2.1 < gI ds x.1 := by
  unfold isFree firstsOf
  rw [Bool.and_eq_true, Bool.not_eq_true', decide_eq_false_iff_not, List.all_eq_true]
  refine and_congr Iff.rfl ⟨fun k x hx e1 e2 => ?_, fun k q hq => ?_⟩
  · have := k (ft x) (List.mem_map.mpr ⟨x, List.mem_filter.mpr ⟨hx, by simp [e1, e2]⟩, rfl⟩)
    exact of_decide_eq_true this
  · obtain ⟨x, hx, rfl⟩ := List.mem_map.mp hq
    obtain ⟨hx, e⟩ := List.mem_filter.mp hx
    simp only [Bool.and_eq_true, decide_eq_true_eq] at e
    exact decide_eq_true (k x hx e.1 e.2)
theorem stuck_cnt {cs : List Int} {ns : List Nt} (ok : RecOk cs ns) {es : List Int} (de : DoneOk cs es) (ne : es ≠ cs) (fe : freeH cs ns es = []) : ∀ (n : Nat) {ds : List Int}, DoneOk cs ds → (∀ i : Int, 0 ≤ i → i < cs.length → gI ds i ≤ gI es i) → cntW cs ns n ds = 0
  | 0, ds, d, le => by
    show (if ds = cs then 1 else 0) = 0
    refine if_neg fun z => ne ?_
    subst z
    refine done_full de ?_
    have : ∀ i : Int, 0 ≤ i → i < ds.length → gI es i = gI ds i := fun i i0 i1 => by have := le i i0 i1; have := (de.2 i i0 i1).2; omega
    have e : es = ds := List.ext_getElem? fun i => by
      by_cases hi : i < ds.length
      · have h1 : ds[i]? = some ds[i] := List.getElem?_eq_getElem hi
        have hi' : i < es.length := by rw [de.1]; exact hi
        have h2 : es[i]? = some es[i] := List.getElem?_eq_getElem hi'
        have := this (i : Int) (by omega) (by omega)
        rw [gI_some h1, gI_some h2] at this
        rw [h1, h2, this]
      · rw [List.getElem?_eq_none (by rw [de.1]; omega), List.getElem?_eq_none (by omega)]
    rw [e]; exact Int.le_refl _
  | n + 1, ds, d, le => by
    rw [cnt_succ]
    refine sumF_zero _ fun h h0 h1 fr => ?_
    by_cases q : gI ds h = gI es h
    · exfalso
      have : h ∈ freeH cs ns es := mem_freeH.mpr ⟨h0, h1, by
        rw [free_iff] at fr ⊢
        refine ⟨by rw [← q]; exact fr.1, fun x hx e1 e2 => ?_⟩
        have := fr.2 x hx e1 (by rw [q]; exact e2)
        obtain ⟨⟨a0, a1⟩, _⟩ := ok.2.2 x hx
        have := le x.1 a0 a1
        omega⟩
      rw [fe] at this
      cases this
    · refine stuck_cnt ok de ne fe n (stp_ok d h0 h1 fr) fun i i0 i1 => ?_
      rw [gI_stp d.1 h0 h1 i0]
      have := le i i0 i1
      split
      · rename_i z; subst z; omega
      · omega
/-! ### one note more, or the same turned about -/
/-! ### numbers of ways, by cuts -/
def encI (ds : List Int) : List Key := ds.map Sum.inl
def encK (l : List (List Int × Nat)) : List (List Key × V) := l.map fun p => (encI p.1, V.int (p.2 : Nat))
theorem encI_inj {a b : List Int} (h : encI a = encI b) : a = b := by
  induction a generalizing b with
  | nil => cases b with
    | nil => rfl
    | cons x b => cases h
  | cons x a ih => cases b with
    | nil => cases h
    | cons y b =>
      have h : Sum.inl x :: encI a = (Sum.inl y : Key) :: encI b := h
      injection h with h1 h2
      rw [Sum.inl.inj h1, ih h2]
theorem encI_kV (ds : List Int) : (encI ds).map kV = ds.map V.int := by unfold encI; rw [List.map_map]; rfl
def getP : List (List Int × Nat) → List Int → Nat
  | [], _ => 0
  | p :: l, k => if p.1 = k then p.2 else getP l k
def addP : List (List Int × Nat) → List Int → Nat → List (List Int × Nat)
  | [], k, v => [(k, v)]
  | p :: l, k, v => if p.1 = k then (p.1, p.2 + v) :: l else p :: addP l k v
theorem val_enc (k : List Int) : ∀ l : List (List Int × Nat), (valV (encK l) (encI k)).getD (.int 0) = .int (getP l k : Nat)
  | [] => rfl
  | p :: l => by
    have ih := val_enc k l
    unfold valV encK at ih ⊢
    rw [List.map_cons, List.find?_cons]
    by_cases e : p.1 = k
    · rw [decide_eq_true (show encI p.1 = encI k by rw [e])]
      show V.int (p.2 : Nat) = V.int ((if p.1 = k then p.2 else getP l k : Nat) : Int)
      rw [if_pos e]
    · rw [decide_eq_false (show ¬ encI p.1 = encI k from fun z => e (encI_inj z))]
      show _ = V.int ((if p.1 = k then p.2 else getP l k : Nat) : Int)
      rw [if_neg e]
      exact ih
theorem val_at {l : List (List Int × Nat)} (nd : (l.map (·.1)).Nodup) {i : Nat} {k : List Int} {v : Nat} (h : l[i]? = some (k, v)) : valV (encK l) (encI k) = some (.int (v : Nat)) := by
  induction l generalizing i with
  | nil => simp at h
  | cons p l ih =>
    rw [List.map_cons, List.nodup_cons] at nd
    unfold valV encK
    rw [List.map_cons, List.find?_cons]
    cases i with
    | zero =>
      cases h
      rw [decide_eq_true rfl]; rfl
    | succ i =>
      have h : l[i]? = some (k, v) := by simpa using h
      have ne : ¬ p.1 = k := fun z => nd.1 (by rw [z]; exact List.mem_map.mpr ⟨(k, v), List.mem_of_getElem? h, rfl⟩)
      rw [decide_eq_false (show ¬ encI p.1 = encI k from fun z => ne (encI_inj z))]
      exact ih nd.2 h
theorem get_not {l : List (List Int × Nat)} {k : List Int} (h : k ∉ l.map (·.1)) : getP l k = 0 := by
  induction l with
  | nil => rfl
  | cons p l ih =>
    rw [List.map_cons, List.mem_cons, not_or] at h
    show (if p.1 = k then p.2 else getP l k) = 0
    rw [if_neg fun z => h.1 z.symm]
    exact ih h.2
theorem put_enc {l : List (List Int × Nat)} (nd : (l.map (·.1)).Nodup) (k : List Int) (v : Nat) : putK (encK l) (encI k) (.int ((getP l k : Nat) + (v : Nat))) = encK (addP l k v) := by
  induction l with
  | nil =>
    show [(encI k, V.int (((0 : Nat) : Int) + (v : Nat)))] = [(encI k, V.int (v : Nat))]
    simp
  | cons p l ih =>
    rw [List.map_cons, List.nodup_cons] at nd
    have ih := ih nd.2
    by_cases e : p.1 = k
    · have e1 : addP (p :: l) k v = (p.1, p.2 + v) :: l := if_pos e
      have e2 : getP (p :: l) k = p.2 := if_pos e
      rw [e1, e2]
      unfold putK
      rw [if_pos (by
        unfold encK
        rw [List.map_cons, List.any_cons, decide_eq_true (show encI p.1 = encI k by rw [e])]; rfl)]
      unfold encK
      rw [List.map_cons, List.map_cons, List.map_cons]
      have a1 : (if encI p.1 = encI k then (encI p.1, V.int ((p.2 : Nat) + (v : Nat))) else (encI p.1, V.int (p.2 : Nat))) = (encI p.1, V.int ((p.2 + v : Nat) : Int)) := by
        rw [if_pos (by rw [e])]
        congr 2
      have a2 : (l.map fun p : List Int × Nat => (encI p.1, V.int (p.2 : Nat))).map (fun kv => if kv.1 = encI k then (kv.1, V.int ((p.2 : Nat) + (v : Nat))) else kv) = l.map fun p : List Int × Nat => (encI p.1, V.int (p.2 : Nat)) := by
        rw [List.map_map]
        refine List.map_congr_left fun q hq => ?_
        show (if encI q.1 = encI k then _ else _) = _
        rw [if_neg fun z => nd.1 (by rw [e, ← encI_inj z]; exact List.mem_map.mpr ⟨q, hq, rfl⟩)]
      rw [a2]
      exact congrArg (· :: _) a1
    · have e1 : addP (p :: l) k v = p :: addP l k v := if_neg e
      have e2 : getP (p :: l) k = getP l k := if_neg e
      have ne : ¬ encI p.1 = encI k := fun z => e (encI_inj z)
      rw [e1, e2]
      have : encK (p :: addP l k v) = (encI p.1, V.int (p.2 : Nat)) :: encK (addP l k v) := rfl
      rw [this, ← ih]
      have : encK (p :: l) = (encI p.1, V.int (p.2 : Nat)) :: encK l := rfl
      rw [this]
      unfold putK
      rw [List.any_cons, decide_eq_false ne, Bool.false_or]
      by_cases q : (encK l).any (fun kv => decide (kv.1 = encI k)) = true
      · rw [if_pos q, if_pos q, List.map_cons, if_neg ne]
      · rw [if_neg q, if_neg q]; rfl
def wsum (l : List (List Int × Nat)) (f : List Int → Nat) : Nat := (l.map fun p => p.2 * f p.1).sum
theorem wsum_add (f : List Int → Nat) (k : List Int) (v : Nat) : ∀ l : List (List Int × Nat), wsum (addP l k v) f = wsum l f + v * f k
  | [] => by show (([(k, v)] : List (List Int × Nat)).map fun p => p.2 * f p.1).sum = _; simp [wsum]
  | p :: l => by
    have c : ∀ (q : List Int × Nat) (m : List (List Int × Nat)), wsum (q :: m) f = q.2 * f q.1 + wsum m f := fun q m => by unfold wsum; rw [List.map_cons, List.sum_cons]
    by_cases e : p.1 = k
    · have e1 : addP (p :: l) k v = (p.1, p.2 + v) :: l := if_pos e
      rw [e1, c, c, ← e]
      show (p.2 + v) * f p.1 + wsum l f = _
      rw [Nat.add_mul]; omega
    · have e1 : addP (p :: l) k v = p :: addP l k v := if_neg e
      rw [e1, c, c, wsum_add f k v l]; omega
theorem add_keys (k : List Int) (v : Nat) : ∀ l : List (List Int × Nat), (addP l k v).map (·.1) = if k ∈ l.map (·.1) then l.map (·.1) else l.map (·.1) ++ [k]
  | [] => rfl
  | p :: l => by
    by_cases e : p.1 = k
    · have e1 : addP (p :: l) k v = (p.1, p.2 + v) :: l := if_pos e
      rw [e1, if_pos (by rw [List.map_cons, e]; simp)]; rfl
    · have e1 : addP (p :: l) k v = p :: addP l k v := if_neg e
      rw [e1, List.map_cons, add_keys k v l, List.map_cons]
      by_cases q : k ∈ l.map (·.1)
      · rw [if_pos q, if_pos (by simp [q])]
      · rw [if_neg q, if_neg (by rw [List.mem_cons, not_or]; exact ⟨fun z => e z.symm, q⟩)]; rfl
theorem add_nodup {l : List (List Int × Nat)} (nd : (l.map (·.1)).Nodup) (k : List Int) (v : Nat) : ((addP l k v).map (·.1)).Nodup := by
  rw [add_keys]
  split
  · exact nd
  · rename_i q
    refine List.nodup_append.mpr ⟨nd, by simp, fun a ha b hb e => ?_⟩
    have : b = k := by simpa using hb
    subst this
    subst e
    exact q ha
theorem add_mem {l : List (List Int × Nat)} {k : List Int} {v : Nat} {ds : List Int} (h : ds ∈ (addP l k v).map (·.1)) : ds = k ∨ ds ∈ l.map (·.1) := by
  rw [add_keys] at h
  split at h
  · exact .inr h
  · rcases List.mem_append.mp h with h | h
    · exact .inr h
    · exact .inl (by simpa using h)
/-! ### how many cuts there may be -/
theorem nodup_lt : ∀ (n : Nat) (l : List Nat), l.Nodup → (∀ x ∈ l, x < n) → l.length ≤ n
  | 0, l, _, h => by
    cases l with
    | nil => exact Nat.le_refl _
    | cons x l => exact absurd (h x (by simp)) (Nat.not_lt_zero _)
  | n + 1, l, nd, h => by
    by_cases m : n ∈ l
    · have := nodup_lt n (l.erase n) (nd.erase n) fun x hx => by
        have := (nd.mem_erase_iff).mp hx
        have := h x this.2
        omega
      rw [List.length_erase_of_mem m] at this
      omega
    · have := nodup_lt n l nd fun x hx => by
        have := h x hx
        have : x ≠ n := fun z => m (z ▸ hx)
        omega
      omega
def prodC : List Int → Nat
  | [] => 1
  | c :: cs => (c.toNat + 1) * prodC cs
def encN : List Int → List Int → Nat
  | c :: cs, d :: ds => d.toNat + (c.toNat + 1) * encN cs ds
  | _, _ => 0
theorem encN_lt : ∀ (cs ds : List Int), ds.length = cs.length → (∀ (i : Nat) (c d : Int), cs[i]? = some c → ds[i]? = some d → 0 ≤ d ∧ d ≤ c) → encN cs ds < prodC cs
  | [], [], _, _ => by show 0 < 1; decide
  | [], _ :: _, h, _ => by simp at h
  | _ :: _, [], h, _ => by simp at h
  | c :: cs, d :: ds, hl, hp => by
    have h0 := hp 0 c d rfl rfl
    have ih := encN_lt cs ds (by simpa using hl) fun i c d e1 e2 => hp (i + 1) c d (by simpa using e1) (by simpa using e2)
    show d.toNat + (c.toNat + 1) * encN cs ds < (c.toNat + 1) * prodC cs
    have : (c.toNat + 1) * (encN cs ds + 1) ≤ (c.toNat + 1) * prodC cs := Nat.mul_le_mul_left _ ih
    rw [Nat.mul_add] at this
    omega
theorem encN_inj : ∀ (cs a b : List Int), a.length = cs.length → b.length = cs.length → (∀ (i : Nat) (c d : Int), cs[i]? = some c → a[i]? = some d → 0 ≤ d ∧ d ≤ c) → (∀ (i : Nat) (c d : Int), cs[i]? = some c → b[i]? = some d → 0 ≤ d ∧ d ≤ c) → encN cs a = encN cs b → a = b
  | [], [], [], _, _, _, _, _ => rfl
  | [], _ :: _, _, h, _, _, _, _ => by simp at h
  | [], [], _ :: _, _, h, _, _, _ => by simp at h
  | _ :: _, [], _, h, _, _, _, _ => by simp at h
  | _ :: _, _ :: _, [], _, h, _, _, _ => by simp at h
  | c :: cs, x :: a, y :: b, ha, hb, pa, pb, e => by
    have a0 := pa 0 c x rfl rfl
    have b0 := pb 0 c y rfl rfl
    have e : x.toNat + (c.toNat + 1) * encN cs a = y.toNat + (c.toNat + 1) * encN cs b := e
    have m : (x.toNat + (c.toNat + 1) * encN cs a) % (c.toNat + 1) = (y.toNat + (c.toNat + 1) * encN cs b) % (c.toNat + 1) := by rw [e]
    rw [Nat.add_mul_mod_self_left, Nat.add_mul_mod_self_left, Nat.mod_eq_of_lt (by omega), Nat.mod_eq_of_lt (by omega)] at m
    have xy : x = y := by omega
    have : encN cs a = encN cs b := Nat.eq_of_mul_eq_mul_left (show 0 < c.toNat + 1 by omega) (by omega)
    rw [xy, encN_inj cs a b (by simpa using ha) (by simpa using hb) (fun i c d e1 e2 => pa (i + 1) c d (by simpa using e1) (by simpa using e2)) (fun i c d e1 e2 => pb (i + 1) c d (by simpa using e1) (by simpa using e2)) this]
theorem done_pt {cs ds : List Int} (d : DoneOk cs ds) : ∀ (i : Nat) (c e : Int), cs[i]? = some c → ds[i]? = some e → 0 ≤ e ∧ e ≤ c := fun i c e h1 h2 => by
  have il := (List.getElem?_eq_some_iff.mp h1).1
  have := d.2 (i : Int) (by omega) (by omega)
  rw [gI_some h1, gI_some h2] at this
  exact this
theorem few_cuts {cs : List Int} {l : List (List Int)} (nd : l.Nodup) (h : ∀ ds ∈ l, DoneOk cs ds) : l.length ≤ prodC cs := by
  have := nodup_lt (prodC cs) (l.map (encN cs)) (by
    refine List.pairwise_map.mpr (List.Pairwise.imp_of_mem ?_ nd)
    intro a b ha hb ne e
    exact ne (encN_inj cs a b (h a ha).1 (h b hb).1 (done_pt (h a ha)) (done_pt (h b hb)) e)) fun x hx => by
      obtain ⟨ds, hd, rfl⟩ := List.mem_map.mp hx
      exact encN_lt cs ds (h ds hd).1 (done_pt (h ds hd))
  rwa [List.length_map] at this
theorem prod_sm : ∀ {cs : List Int} {n : Nat}, cs.length ≤ n → (∀ c ∈ cs, c ≤ 6) → prodC cs ≤ 7 ^ n
  | [], n, _, _ => Nat.one_le_pow _ _ (by decide)
  | c :: cs, n, l, h => by
    rw [List.length_cons] at l
    obtain ⟨m, rfl⟩ : ∃ m, n = m + 1 := ⟨n - 1, by omega⟩
    have := prod_sm (cs := cs) (n := m) (by omega) fun x hx => h x (by simp [hx])
    have := h c (by simp)
    show (c.toNat + 1) * prodC cs ≤ 7 ^ (m + 1)
    rw [Nat.pow_succ, Nat.mul_comm (7 ^ m) 7]
    exact Nat.mul_le_mul (by omega) ‹prodC cs ≤ 7 ^ m›

theorem take_set {ds : List Int} {h : Nat} (hl : h < ds.length) (v : Int) : ds.take h ++ [v] ++ ds.drop (h + 1) = ds.set h v := by
  rw [List.set_eq_take_append_cons_drop, if_pos hl]
  simp
theorem part_to {n h : Nat} (l : h < n) : ¬ (HT.sIx n 0 none = 0 ∧ HT.sIx n n (some (h : Int)) = n) := fun z => by
  have := z.2
  rw [HT.sIx_nat] at this
  omega
theorem part_from {n h : Nat} (l : h < n) : ¬ (HT.sIx n 0 (some ((h + 1 : Nat) : Int)) = 0 ∧ HT.sIx n n none = n) := fun z => by
  have := z.1
  rw [HT.sIx_nat] at this
  omega
/-- what the loop of the ways keeps -/
structure LayW (cs : List Int) (ns : List Nt) (n : Nat) (lat ws : List (List Int × Nat)) : Prop where
  nl : (lat.map (·.1)).Nodup
  ld : ∀ ds ∈ lat.map (·.1), DoneOk cs ds ∧ ds.sum = n
  lw : (n : Int) ≤ cs.sum → wsum lat (cntW cs ns (cs.sum.toNat - n)) = cntW cs ns cs.sum.toNat (zs cs)
  nw : (ws.map (·.1)).Nodup
  wd : ∀ ds ∈ ws.map (·.1), DoneOk cs ds ∧ ds.sum < n
  en : (n : Int) = cs.sum + 1 → getP ws cs = cntW cs ns cs.sum.toNat (zs cs)
  le : (n : Int) ≤ cs.sum + 1
  st : ws = [] → ∃ y, lat = [y]
theorem lay0 {cs : List Int} {ns : List Nt} (ok : CsOk cs) : LayW cs ns 0 [(zs cs, 1)] [] := by
  have s0 : (zs cs).sum = 0 := zs_sum cs
  have s1 := (zs_ok ok).sum
  refine ⟨by simp, fun ds hd => ?_, fun _ => ?_, by simp, fun ds hd => (by cases hd), fun z => by omega, by omega, fun _ => ⟨_, rfl⟩⟩
  · have : ds = zs cs := by simpa using hd
    subst this
    exact ⟨zs_ok ok, by rw [s0]; rfl⟩
  · show ([(zs cs, 1)].map fun p : List Int × Nat => p.2 * _).sum = _
    simp
theorem lay_keys {cs : List Int} {ns : List Nt} {n : Nat} {lat ws : List (List Int × Nat)} (L : LayW cs ns n lat ws) : ((ws ++ lat).map (·.1)).Nodup ∧ ∀ ds ∈ (ws ++ lat).map (·.1), DoneOk cs ds := by
  rw [List.map_append]
  refine ⟨List.nodup_append.mpr ⟨L.nw, L.nl, fun a ha b hb e => ?_⟩, fun ds hd => ?_⟩
  · subst e
    have := (L.wd a ha).2
    have := (L.ld a hb).2
    omega
  · rcases List.mem_append.mp hd with hd | hd
    · exact (L.wd ds hd).1
    · exact (L.ld ds hd).1
theorem get_app {k : List Int} : ∀ {l m : List (List Int × Nat)}, k ∉ l.map (·.1) → getP (l ++ m) k = getP m k
  | [], m, _ => rfl
  | p :: l, m, h => by
    rw [List.map_cons, List.mem_cons, not_or] at h
    show (if p.1 = k then p.2 else getP (l ++ m) k) = _
    rw [if_neg fun z => h.1 z.symm]
    exact get_app h.2
theorem lay_next {cs : List Int} {ns : List Nt} {n : Nat} {lat ws fl : List (List Int × Nat)} (L : LayW cs ns n lat ws) (ne : lat ≠ []) (nf : (fl.map (·.1)).Nodup) (fd : ∀ ds ∈ fl.map (·.1), DoneOk cs ds ∧ ds.sum = (n + 1 : Nat))
    (fw : wsum fl (cntW cs ns (cs.sum.toNat - n - 1)) = wsum lat fun ds => ((freeH cs ns ds).map fun h => cntW cs ns (cs.sum.toNat - n - 1) (stp ds h)).sum) : LayW cs ns (n + 1) fl (ws ++ lat) ∧ (n : Int) ≤ cs.sum := by
  obtain ⟨p, hp⟩ : ∃ p, p ∈ lat := by
    cases lat with
    | nil => exact absurd rfl ne
    | cons p l => exact ⟨p, by simp⟩
  obtain ⟨pd, ps⟩ := L.ld p.1 (List.mem_map.mpr ⟨p, hp, rfl⟩)
  have nle : (n : Int) ≤ cs.sum := by rw [← ps]; exact pd.sum.2
  obtain ⟨k1, k2⟩ := lay_keys L
  refine ⟨⟨nf, fd, fun l1 => ?_, k1, fun ds hd => ⟨k2 ds hd, ?_⟩, fun e => ?_, by omega, fun z => ?_⟩, nle⟩
  · rw [show cs.sum.toNat - (n + 1) = cs.sum.toNat - n - 1 by omega, fw, ← L.lw nle]
    obtain ⟨m, hm⟩ : ∃ m, cs.sum.toNat - n = m + 1 := ⟨cs.sum.toNat - n - 1, by omega⟩
    rw [hm]
    rfl
  · rw [List.map_append] at hd
    rcases List.mem_append.mp hd with hd | hd
    · have := (L.wd ds hd).2; omega
    · have := (L.ld ds hd).2; omega
  · have en : (n : Int) = cs.sum := by omega
    have nin : cs ∉ ws.map (·.1) := fun z => by have := (L.wd cs z).2; omega
    rw [get_app nin, ← L.lw (by omega), show cs.sum.toNat - n = 0 by omega]
    have all : ∀ ds ∈ lat.map (·.1), ds = cs := fun ds hd => done_full (L.ld ds hd).1 (by rw [(L.ld ds hd).2]; omega)
    match lat, ne, L.nl, all with
    | [], ne, _, _ => exact absurd rfl ne
    | [q], _, _, all =>
      have e1 : q.1 = cs := all q.1 (by simp)
      show (if q.1 = cs then q.2 else 0) = ([q].map fun p : List Int × Nat => p.2 * if p.1 = cs then 1 else 0).sum
      simp [e1]
    | q :: q' :: l, _, nd, all =>
      have e1 := all q.1 (by simp)
      have e2 := all q'.1 (by simp)
      rw [List.map_cons, List.nodup_cons, List.map_cons] at nd
      exact absurd (by rw [e1, e2]; simp) nd.1
  · have h1 : (ws ++ lat).length = 0 := by rw [z]; rfl
    rw [List.length_append] at h1
    have : 0 < lat.length := List.length_pos_of_mem hp
    omega
theorem lay_end {cs : List Int} {ns : List Nt} {n : Nat} {ws : List (List Int × Nat)} (L : LayW cs ns n [] ws) : getP ws cs = cntW cs ns cs.sum.toNat (zs cs) := by
  by_cases e : (n : Int) = cs.sum + 1
  · exact L.en e
  · have le := L.le
    have nin : cs ∉ ws.map (·.1) := fun z => by have := (L.wd cs z).2; omega
    rw [get_not nin, ← L.lw (by omega)]
    rfl

/-! ### cuts that are come to -/
inductive Rch (cs : List Int) (ns : List Nt) : List Int → Prop
  | zero : Rch cs ns (zs cs)
  | step {ds : List Int} {h : Int} : Rch cs ns ds → h ∈ freeH cs ns ds → Rch cs ns (stp ds h)
theorem Rch.ok {cs : List Int} {ns : List Nt} (c : CsOk cs) {ds : List Int} (r : Rch cs ns ds) : DoneOk cs ds := by
  induction r with
  | zero => exact zs_ok c
  | step _ hf ih =>
    obtain ⟨h0, h1, fr⟩ := mem_freeH.mp hf
    exact stp_ok ih h0 h1 fr
theorem done_zero {cs ds : List Int} (d : DoneOk cs ds) (h : ds.sum = 0) : ds = zs cs := by
  refine (le_full ds (zs cs) (by rw [d.1]; simp [zs]) (fun i c e h1 h2 => ?_) (by rw [h, zs_sum]; exact Int.le_refl _)).symm
  have il := (List.getElem?_eq_some_iff.mp h1).1
  have := (d.2 (i : Int) (by omega) (by rw [← d.1]; omega)).1
  rw [gI_some h1] at this
  have e0 : e = 0 := by
    have := gI_some h2
    rw [gI_zs] at this
    exact this.symm
  omega
theorem Rch.back {cs : List Int} {ns : List Nt} (c : CsOk cs) {es : List Int} (r : Rch cs ns es) {n : Nat} (e : es.sum = (n + 1 : Nat)) : ∃ ds h, Rch cs ns ds ∧ ds.sum = n ∧ h ∈ freeH cs ns ds ∧ es = stp ds h := by
  cases r with
  | zero =>
    have := zs_sum cs
    omega
  | @step ds h r hf =>
    obtain ⟨h0, h1, fr⟩ := mem_freeH.mp hf
    have := stp_sum (r.ok c) h0 h1
    exact ⟨ds, h, r, by omega, hf, rfl⟩
theorem add_len (l : List (List Int × Nat)) (k : List Int) (v : Nat) : (addP l k v).length ≤ l.length + 1 := by
  have := congrArg List.length (add_keys k v l)
  rw [List.length_map] at this
  rw [this]
  split
  · rw [List.length_map]; omega
  · rw [List.length_append, List.length_map]; exact Nat.le_refl _
theorem add_mem_iff {l : List (List Int × Nat)} {k : List Int} {v : Nat} {ds : List Int} : ds ∈ (addP l k v).map (·.1) ↔ ds = k ∨ ds ∈ l.map (·.1) := by
  constructor
  · exact add_mem
  · intro h
    rw [add_keys]
    split
    · rename_i m
      rcases h with rfl | h
      · exact m
      · exact h
    · rw [List.mem_append]
      rcases h with rfl | h
      · exact .inr (by simp)
      · exact .inl h
/-- what the loop of the ways keeps -/
structure LayG (cs : List Int) (ns : List Nt) (n : Nat) (lat ws : List (List Int × Nat)) : Prop where
  ly : LayW cs ns n lat ws
  lr : ∀ ds, ds ∈ lat.map (·.1) ↔ Rch cs ns ds ∧ ds.sum = n
  wr : ∀ ds, ds ∈ ws.map (·.1) ↔ Rch cs ns ds ∧ ds.sum < n
theorem layG0 {cs : List Int} {ns : List Nt} (ok : CsOk cs) : LayG cs ns 0 [(zs cs, 1)] [] := by
  refine ⟨lay0 ok, fun ds => ?_, fun ds => ?_⟩
  · constructor
    · intro h
      have : ds = zs cs := by simpa using h
      subst this
      exact ⟨.zero, by rw [zs_sum]; rfl⟩
    · rintro ⟨r, e⟩
      have := done_zero (r.ok ok) (by rw [e]; rfl)
      simp [this]
  · constructor
    · intro h; cases h
    · rintro ⟨r, e⟩
      have := (r.ok ok).sum
      omega
theorem layG_next {cs : List Int} {ns : List Nt} (ok : CsOk cs) {n : Nat} {lat ws fl : List (List Int × Nat)} (L : LayG cs ns n lat ws) (ne : lat ≠ []) (nf : (fl.map (·.1)).Nodup) (fd : ∀ ds ∈ fl.map (·.1), DoneOk cs ds ∧ ds.sum = (n + 1 : Nat))
    (fw : wsum fl (cntW cs ns (cs.sum.toNat - n - 1)) = wsum lat fun ds => ((freeH cs ns ds).map fun h => cntW cs ns (cs.sum.toNat - n - 1) (stp ds h)).sum)
    (fr : ∀ d', d' ∈ fl.map (·.1) ↔ ∃ ds ∈ lat.map (·.1), ∃ h ∈ freeH cs ns ds, d' = stp ds h) : LayG cs ns (n + 1) fl (ws ++ lat) ∧ (n : Int) ≤ cs.sum := by
  obtain ⟨L1, nle⟩ := lay_next L.ly ne nf fd fw
  refine ⟨⟨L1, fun ds => ?_, fun ds => ?_⟩, nle⟩
  · rw [fr]
    constructor
    · rintro ⟨es, he, h, hh, rfl⟩
      obtain ⟨r, e⟩ := (L.lr es).mp he
      obtain ⟨h0, h1, _⟩ := mem_freeH.mp hh
      exact ⟨.step r hh, by rw [stp_sum (r.ok ok) h0 h1]; omega⟩
    · rintro ⟨r, e⟩
      obtain ⟨es, h, r', e', hh, rfl⟩ := r.back ok e
      exact ⟨es, (L.lr es).mpr ⟨r', e'⟩, h, hh, rfl⟩
  · rw [List.map_append, List.mem_append, L.wr, L.lr]
    constructor
    · rintro (⟨r, e⟩ | ⟨r, e⟩)
      · exact ⟨r, by omega⟩
      · exact ⟨r, by omega⟩
    · rintro ⟨r, e⟩
      by_cases q : ds.sum < n
      · exact .inl ⟨r, q⟩
      · exact .inr ⟨r, by omega⟩
theorem layG_end {cs : List Int} {ns : List Nt} (ok : CsOk cs) {n : Nat} {ws : List (List Int × Nat)} (L : LayG cs ns n [] ws) : (ws.map (·.1)).Nodup ∧ ∀ ds, ds ∈ ws.map (·.1) ↔ Rch cs ns ds := by
  refine ⟨L.ly.nw, fun ds => ?_⟩
  rw [L.wr]
  refine ⟨fun h => h.1, fun r => ⟨r, ?_⟩⟩
  -- none of the sum n, none beyond
  have none : ∀ (m : Nat) (es : List Int), Rch cs ns es → es.sum = (n + m : Nat) → False := fun m => by
    induction m with
    | zero =>
      intro es r e
      have := (L.lr es).mpr ⟨r, e⟩
      cases this
    | succ m ih =>
      intro es r e
      obtain ⟨fs, h, r', e', _⟩ := r.back ok (n := n + m) e
      exact ih fs r' e'
  have p := (r.ok ok).sum
  by_cases q : ds.sum < n
  · exact q
  · exact (none (ds.sum.toNat - n) ds r (by omega)).elim

def spWaysG (CT : Addr) (K : PySem.W.Frag) : Sp := fun vs H Q E => ∃ (t c a : Addr) (cs : List Int) (ns : List Nt) (most : Int), vs = [.ref t, .int most] ∧ RecAt H t c a cs ns ∧ RecOk cs ns ∧ 0 ≤ most ∧ most ≤ 5000 ∧ (∀ (ks : List (List Int)) (H' : Hp), ks.Nodup → (∀ ds ∈ ks, Rch cs ns ds) → most < ks.length → Same H H' → E (.ref CT) none H') ∧ ∀ (w : Addr) (l : List (List Int × Nat)) (H' : Hp), H' w = some (.dT (encK l)) → getP l cs = cntW cs ns cs.sum.toNat (zs cs) → (l.map (·.1)).Nodup → (∀ ds, ds ∈ l.map (·.1) ↔ Rch cs ns ds) → (l.length : Int) ≤ most → Same H H' → Q (.ref w) H'
theorem ok_waysG {f : Addr} {fd : FuncData} (F : Fun K "ways_to_cuts" "ways_to_cuts" s_ways_to_cuts f fd) (F_firsts_of : FnAt P w K mg base 1 "firsts_of" ["record"] (spFirsts K)) (F_free_hands : FnAt P w K mg base 3 "free_hands" ["counts", "firsts", "done"] (spFreeH K)) (Bt : Blt mg) {C_TooMany : Addr} (X_TooMany : Xr K mg C_TooMany "TooMany") : FnOk P w K mg base (CX1 P w) 4 f fd ["record", "most"] (spWaysG C_TooMany K) := by
  refine F.okX sc_ways_to_cuts (fun vs H Q E h => ?_) (fun cdv A outer s H vs Q E hr h hR => ?_)
  · obtain ⟨t, c, a, cs, ns, most, rfl, _⟩ := h
    rfl
  · obtain ⟨t, c, a, cs, ns, most, rfl, R, ok, m0, m5, kE, k⟩ := h
    have hu := hu_of hr
    have hu64 := hr.units
    have c8 := ok.1.1
    refine ⟨_, (pss_cons (ps_set (i := 2) sc_ways_to_cuts.nd rfl (Or.inl rfl) (pe_fn F_firsts_of (hr.mono (by decide)) (by rfl) (pa_cons (pv 0) pa_nil)))
      (pss_cons (ps_set (i := 3) sc_ways_to_cuts.nd rfl (Or.inl rfl) pe_dnewT)
      (pss_cons (ps_set (i := 4) sc_ways_to_cuts.nd rfl (Or.inl rfl) (pe_disp1 (Nat.lt_of_succ_lt hu) (pe_callTy call_tuple_of (by rfl) Bt.b_tuple bt_tuple (pa_cons (pe_comp rfl (N := ["count"]) (own := ["count"]) (caps := []) (CompScope.of (by kernel_rfl)) (pi_listK (K := K) rfl (pe_ix (ix_tupK (K := K) rfl) (pv 0) pe_int (fun _ _ => rfl))) (fun _ _ _ _ => (pg_name (i := 0) (show List.Nodup (["count"] : List Str) by decide +kernel) rfl (Or.inl rfl))) (fun _ _ _ _ => pts_nil) (fun _ _ _ _ => pe_int)) pa_nil)) pe_int))
      (pss_cons (ps_while PassesOwn.leaving (pt_truT (pv 4)) (pss_cons (ps_expr (pe_bmK (K := K) rfl PySem.F.plainAttrs_dict PySem.F.slot_dict_update PySem.F.type_dict_update (mt_updT hu) (pv 3) (pa_cons (pv 4) pa_nil)))
      (pss_cons (ps_if (pt_cmpR op_gt (pe_callB call_lenT (by rfl) Bt.b_len bt_len (pa_cons (pv 3) pa_nil)) (pv 1) (nomark _)) (pss_one (ps_raise PySem.F.excBase_ValueError X_TooMany.ex X_TooMany.bd (by rfl) rfl rfl hR (pa_cons pe_str pa_nil))) pss_nil)
      (pss_cons (ps_set (i := 5) sc_ways_to_cuts.nd rfl (Or.inl rfl) pe_dnewT)
      (pss_cons (ps_thawT (ps_for PassesOwn.leaving rfl (pi_dictT (pv 4)) (pg_name (i := 6) sc_ways_to_cuts.nd rfl (Or.inl rfl))
      (pss_one (ps_for PassesOwn.leaving rfl (pi_listK (K := K) rfl (pe_fn F_free_hands (hr.mono (by decide)) (by rfl) (pa_cons (pe_ix (ix_tupK (K := K) rfl) (pv 0) pe_int (fun _ _ => rfl)) (pa_cons (pv 2) (pa_cons (pv 6) pa_nil))))) (pg_name (i := 7) sc_ways_to_cuts.nd rfl (Or.inl rfl))
      (pss_cons (ps_set (i := 8) sc_ways_to_cuts.nd rfl (Or.inl rfl) (pe_op (op_catA (K := K) rfl) (pe_op (op_catA (K := K) rfl) (pe_slice (sl_tupK (K := K) rfl) (pv 6) po_none (po_some (pv 7))) (pe_tup (pa_cons (pe_op op_add (pe_ix (ix_tupK (K := K) rfl) (pv 6) (pv 7) (fun _ _ => rfl)) pe_int) pa_nil))) (pe_slice (sl_tupK (K := K) rfl) (pv 6) (po_some (pe_op op_add (pv 7) pe_int)) po_none)))
      (pss_one (ps_dput hu (pv 5) (pv 8) (pe_op op_add (pe_dget2 hu (pv 5) (pv 8) pe_int ⟨rfl, rfl, rfl, rfl⟩) (pe_dget hu (pv 4) (pv 6) (fun _ _ => rfl))) rfl)))))))
      (pss_one (ps_set (i := 4) sc_ways_to_cuts.nd rfl (Or.inl rfl) (pv 5))))))))
      (pss_one (ps_ret (pv 3))))))), ?_⟩
    refine ⟨_, rfl, t, c, a, cs, ns, rfl, R, ok, fun f H1 hf FA s1 => ?_⟩
    intro w hw
    have s2 := same_new (o := HO.dT []) hw
    intro l hl
    have s3 := same_new (o := HO.dT []) hl
    have S3 := (s1.trans s2).trans s3
    have R3 := R.same S3
    have nwl : w ≠ l := ne_of_none upd_same hl
    have hl2 : (upd (upd H1 w (.dT [])) l (.dT [])) l = some (.dT []) := upd_same
    have hw2 := s3 _ _ (upd_same (H := H1) (a := w) (o := HO.dT []))
    have hl1 : H1 l = none := s2.free hl
    refine ⟨_, rfl, _, _, _, _, rfl, rfl, SqT.of R3.1, rfl, c, rfl, ⟨_, SqL.of R3.2.1⟩, fun p hp => ?_⟩
    refine comp_val (K := K) (fun i => some (.int 0)) hp (SqL.of R3.2.1) (by rw [List.length_map]; omega) (fun i v H4 G F hi s4 kG kF => kF _ H4 (Same.refl _) rfl) (fun H4 s4 e4 => ?_)
    rw [List.length_map, zs_map] at e4
    refine ⟨p, _, rfl, .inl ⟨SqL.of e4, fun q hq => ?_⟩⟩
    have s5 := same_new (o := HO.tup ((List.replicate cs.length (0 : Int)).map V.int)) hq
    have s45 := s4.trans s5
    refine ⟨q, encI (zs cs), rfl, by rw [upd_same, encI_kV]; rfl, s45 _ _ hl2, ?_⟩
    have base : ∀ (H6 : Hp) (o : HO), Same (upd (upd H1 w (.dT [])) l (.dT [])) H6 → Same H1 (upd H6 l o) := fun H6 o s b u e => by
      rw [upd_ne (ne_of_none e hl1)]
      exact s _ _ ((s2.trans s3) _ _ e)
    have S6 := base _ (.dT [(encI (zs cs), V.int 1)]) s45
    have hw6 : (upd (upd H4 q (.tup ((List.replicate cs.length (0 : Int)).map V.int))) l (.dT [(encI (zs cs), V.int 1)])) w = some (.dT (encK [])) := by rw [upd_ne nwl]; exact s45 _ _ hw2
    have hl6 : (upd (upd H4 q (.tup ((List.replicate cs.length (0 : Int)).map V.int))) l (.dT [(encI (zs cs), V.int 1)])) l = some (.dT (encK [(zs cs, 1)])) := upd_same
    generalize (upd (upd H4 q (.tup ((List.replicate cs.length (0 : Int)).map V.int))) l (.dT [(encI (zs cs), V.int 1)])) = H6 at S6 hw6 hl6 ⊢
    clear s45 s5 s4 hq e4 hp base hl2 hw2 s3 S3 R3 hl
    have hw1 : H1 w = none := hw
    have c1 := s1 _ _ R.2.1
    have R1 := R.same s1
    refine ⟨fun m σ H7 => ∃ (n : Nat) (lat ws : List (List Int × Nat)) (l : Addr) (x1 x2 x3 x4 : Option V), σ = [some (.ref t), some (.int most), some (.ref f), some (.ref w), some (.ref l), x1, x2, x3, x4] ∧ H7 w = some (.dT (encK ws)) ∧ H7 l = some (.dT (encK lat)) ∧ w ≠ l ∧ H1 l = none ∧ Same H1 H7 ∧ LayG cs ns n lat ws ∧ (ws.length : Int) ≤ most ∧ lat.length ≤ 40000 ∧ m = (cs.sum + 1 - n).toNat,
      ⟨_, 0, [(zs cs, 1)], [], l, none, none, none, none, rfl, hw6, hl6, nwl, hl1, S6, layG0 ok.1, by simpa using m0, by simp, rfl⟩, ?_⟩
    rintro m σ H7 ⟨n, lat, ws, l, x1, x2, x3, x4, rfl, hw7, hl7, nwl, hl1, S7, LG, wle, lle, rfl⟩
    have LA := LG.ly
    refine ⟨_, rfl, l, _, rfl, hl7, ?_⟩
    by_cases en : lat = []
    · subst en
      refine iteF ?_
      exact ⟨_, rfl, k w ws H7 hw7 (lay_end LA) (layG_end ok.1 LG).1 (layG_end ok.1 LG).2 wle (s1.trans S7)⟩
    have ee : (!(encK lat).isEmpty) = true := by cases lat with | nil => exact absurd rfl en | cons p q => rfl
    rw [ee]
    refine iteT ?_
    refine ⟨fun σ' H' => ∃ m', m' < (cs.sum + 1 - n).toNat ∧ ∃ (n : Nat) (lat ws : List (List Int × Nat)) (l : Addr) (x1 x2 x3 x4 : Option V), σ' = [some (.ref t), some (.int most), some (.ref f), some (.ref w), some (.ref l), x1, x2, x3, x4] ∧ H' w = some (.dT (encK ws)) ∧ H' l = some (.dT (encK lat)) ∧ w ≠ l ∧ H1 l = none ∧ Same H1 H' ∧ LayG cs ns n lat ws ∧ (ws.length : Int) ≤ most ∧ lat.length ≤ 40000 ∧ m' = (cs.sum + 1 - n).toNat, fun σ' H' h => h, ?_⟩
    obtain ⟨kn, kd⟩ := lay_keys LA
    have eapp : encK ws ++ encK lat = encK (ws ++ lat) := by unfold encK; rw [List.map_append]
    have ekeys : (encK ws ++ encK lat).map (·.1) = ((ws ++ lat).map (·.1)).map encI := by rw [eapp]; unfold encK; rw [List.map_map, List.map_map]; rfl
    refine ⟨_, rfl, .inr (.inr (.inl ⟨rfl, .inr ⟨_, hw7⟩⟩)), _, rfl, w, l, encK ws, encK lat, rfl, rfl, hw7, hl7, ?_, ?_, ?_, ?_⟩
    · rw [ekeys]
      exact List.pairwise_map.mpr (List.Pairwise.imp (fun {a b} ne e => ne (encI_inj e)) kn)
    · intro z
      have : ws = [] := by cases ws with | nil => rfl | cons p q => cases z
      obtain ⟨y, rfl⟩ := LA.st this
      exact ⟨_, rfl⟩
    · rw [← List.length_append, eapp]
      unfold encK
      rw [List.length_map, sizeLine_eq, List.length_append]; omega
    rw [eapp]
    have kw : Kp w H7 (upd H7 w (.dT (encK (ws ++ lat)))) := Kp.set
    have S8 : Same H1 (upd H7 w (.dT (encK (ws ++ lat)))) := fun b u e => kw _ _ (S7 _ _ e) (ne_of_none e hw1)
    have hl8 := kw _ _ hl7 nwl.symm
    have hw8 : (upd H7 w (.dT (encK (ws ++ lat)))) w = some (.dT (encK (ws ++ lat))) := upd_same
    generalize upd H7 w (.dT (encK (ws ++ lat))) = H8 at S8 hl8 hw8 ⊢
    refine ⟨_, rfl, w, _, rfl, hw8, _, rfl, _, _, rfl, rfl, _, rfl, ?_⟩
    have kl9 : (encK (ws ++ lat)).length = (ws ++ lat).length := by unfold encK; rw [List.length_map]
    by_cases big : (((ws ++ lat).length : Nat) : Int) > most
    · rw [decide_eq_true (show (((encK (ws ++ lat)).length : Nat) : Int) > most by rw [kl9]; exact big)]
      refine iteT ?_
      refine ⟨(by show 1 ≤ sizeLine; decide), kE ((ws ++ lat).map (·.1)) _ kn (fun ds hd => ?_) (by rw [List.length_map]; exact big) (s1.trans S8)⟩
      rw [List.map_append] at hd
      rcases List.mem_append.mp hd with hd | hd
      · exact ((LG.wr ds).mp hd).1
      · exact ((LG.lr ds).mp hd).1
    rw [decide_eq_false (show ¬ (((encK (ws ++ lat)).length : Nat) : Int) > most by rw [kl9]; exact big)]
    refine iteF ?_
    have lat5 : lat.length ≤ 5000 := by rw [List.length_append] at big; omega
    dsimp only [tNext]
    intro g hg
    have s9 := same_new (o := HO.dT []) hg
    have S9 := S8.trans s9
    have hl9 := s9 _ _ hl8
    have hw9 := s9 _ _ hw8
    have hg9 : (upd H8 g (.dT [])) g = some (.dT (encK [])) := upd_same
    have hg1 : H1 g = none := S8.free hg
    have ngl : g ≠ l := (ne_of_none hl8 hg).symm
    have ngw : g ≠ w := (ne_of_none hw8 hg).symm
    generalize upd H8 g (.dT []) = H9 at S9 hl9 hw9 hg9 ⊢
    refine ⟨_, rfl, l, _, rfl, hl9, fun ob => ?_⟩
    have kl : Kp l H9 (upd H9 l (.frz ob (.dT (encK lat)))) := Kp.set
    have kfz : ∀ b u, H1 b = some u → (upd H9 l (.frz ob (.dT (encK lat)))) b = some u := fun b u e => kl _ _ (S9 _ _ e) (ne_of_none e hl1)
    refine for_dT (fun i σ H10 => ∃ (fl : List (List Int × Nat)) (x2 x3 x4 : Option V), σ = [some (.ref t), some (.int most), some (.ref f), some (.ref w), some (.ref l), some (.ref g), x2, x3, x4] ∧ Same H1 H10 ∧ H10 w = some (.dT (encK (ws ++ lat))) ∧ H10 g = some (.dT (encK fl)) ∧ H10 l = some (.frz ob (.dT (encK lat))) ∧ (fl.map (·.1)).Nodup ∧ (∀ ds ∈ fl.map (·.1), DoneOk cs ds ∧ ds.sum = (n + 1 : Nat)) ∧
        (wsum fl (cntW cs ns (cs.sum.toNat - n - 1)) = wsum (lat.take i) fun ds => ((freeH cs ns ds).map fun h => cntW cs ns (cs.sum.toNat - n - 1) (stp ds h)).sum) ∧ (∀ d', d' ∈ fl.map (·.1) ↔ ∃ ds ∈ (lat.take i).map (·.1), ∃ h ∈ freeH cs ns ds, d' = stp ds h) ∧ fl.length ≤ 8 * i)
      ⟨[], _, _, _, rfl, kfz, kl _ _ hw9 nwl, kl _ _ hg9 ngl, upd_same, by simp, (fun ds hd => by cases hd), rfl, (fun d' => by simp), by simp⟩ (fun i σ H _ ⟨_, _, _, _, _, _, _, _, e, _⟩ => e) ?_ ?_
    · rintro i kk vv b σ H10 hi hb ⟨fl, x2, x3, x4, rfl, S10, hw10, hg10, hl10, nf, fd, fw, frk, fll⟩
      obtain ⟨ds, v, ei, rfl, rfl⟩ : ∃ (ds : List Int) (v : Nat), lat[i]? = some (ds, v) ∧ kk = encI ds ∧ vv = V.int (v : Nat) := by
        unfold encK at hi
        rw [List.getElem?_map] at hi
        cases e : lat[i]? with
        | none => rw [e] at hi; cases hi
        | some p => rw [e] at hi; cases hi; exact ⟨p.1, p.2, rfl, rfl, rfl⟩
      rw [encI_kV] at hb
      obtain ⟨dd, dsum⟩ := LA.ld ds (List.mem_map.mpr ⟨(ds, v), List.mem_of_getElem? ei, rfl⟩)
      have dl := dd.1
      have tk : lat.take (i + 1) = lat.take i ++ [(ds, v)] := by rw [List.take_add_one, ei]; rfl
      have R10 := R1.same S10
      refine ⟨_, rfl, _, _, _, _, rfl, rfl, SqT.of R10.1, rfl, _, rfl, _, rfl, c, f, b, cs, ds, ns, rfl, R10.2.1, FA.same S10, .inr (SqT.of hb), ok, dl, fun q H11 hq hq11 s11 => ?_⟩
      have fl8 := freeH_len cs ns ds
      refine ⟨q, rfl, ⟨_, SqL.of hq11⟩, ?_⟩
      refine for_list (K := K) (a := q) (xs := (freeH cs ns ds).map V.int) (fun j σ H12 => ∃ (fl : List (List Int × Nat)) (x3 x4 : Option V), σ = [some (.ref t), some (.int most), some (.ref f), some (.ref w), some (.ref l), some (.ref g), some (.ref b), x3, x4] ∧ Same H1 H12 ∧ H12 w = some (.dT (encK (ws ++ lat))) ∧ H12 g = some (.dT (encK fl)) ∧ H12 l = some (.frz ob (.dT (encK lat))) ∧ H12 q = some (.lst ((freeH cs ns ds).map V.int)) ∧ H12 b = some (.tup (ds.map V.int)) ∧ (fl.map (·.1)).Nodup ∧ (∀ ds ∈ fl.map (·.1), DoneOk cs ds ∧ ds.sum = (n + 1 : Nat)) ∧
          wsum fl (cntW cs ns (cs.sum.toNat - n - 1)) = (wsum (lat.take i) fun ds => ((freeH cs ns ds).map fun h => cntW cs ns (cs.sum.toNat - n - 1) (stp ds h)).sum) + v * (((freeH cs ns ds).take j).map fun h => cntW cs ns (cs.sum.toNat - n - 1) (stp ds h)).sum ∧
          (∀ d', d' ∈ fl.map (·.1) ↔ (∃ ds ∈ (lat.take i).map (·.1), ∃ h ∈ freeH cs ns ds, d' = stp ds h) ∨ ∃ h ∈ (freeH cs ns ds).take j, d' = stp ds h) ∧ fl.length ≤ 8 * i + j)
        ⟨fl, x3, x4, rfl, S10.trans s11, s11 _ _ hw10, s11 _ _ hg10, s11 _ _ hl10, hq11, s11 _ _ hb, nf, fd, by rw [fw]; simp, (fun d' => by rw [frk]; simp), by omega⟩ (fun j σ H12 _ ⟨_, _, _, _, _, _, _, _, e, _⟩ => SqL.of e) ?_ ?_
      · rintro j vv σ H12 hj ⟨fl, x3, x4, rfl, S12, hw12, hg12, hl12, hq12, hb12, nf, fd, fw, frk, fll⟩
        rw [List.getElem?_map] at hj
        cases ej : (freeH cs ns ds)[j]? with
        | none => rw [ej] at hj; cases hj
        | some h =>
          rw [ej] at hj
          cases hj
          obtain ⟨h0, h1, fr⟩ := mem_freeH.mp (List.mem_of_getElem? ej)
          obtain ⟨hn, rfl⟩ := Int.eq_ofNat_of_zero_le h0
          have hnl : hn < ds.length := by omega
          have tkj : (freeH cs ns ds).take (j + 1) = (freeH cs ns ds).take j ++ [(hn : Int)] := by rw [List.take_add_one, ej]; rfl
          -- longer
          refine ⟨_, rfl, _, rfl, _, rfl, _, _, rfl, SqT.of hb12, by rw [List.length_map]; exact part_to hnl, fun p1 hp1 => ?_⟩
          rw [cut_take]
          have u1 := same_new (o := HO.tup ((ds.map V.int).take hn)) hp1
          refine ⟨_, rfl, _, rfl, _, _, _, _, rfl, rfl, SqT.of (u1 _ _ hb12), atI_gI (by omega) (by omega), _, _, rfl, rfl, (by show 1 ≤ sizeLine; decide), fun p2 hp2 => ?_⟩
          have u2 := same_new (o := HO.tup [V.int (gI ds (hn : Int) + 1)]) hp2
          have ts : ds.take hn ++ [gI ds (hn : Int) + 1] ++ ds.drop (hn + 1) = stp ds (hn : Int) := by rw [take_set hnl]; rfl
          have fin : ∀ (z : Addr) (H' : Hp), H' z = some (.tup ((ds.take hn ++ [gI ds (hn : Int) + 1]).map V.int)) → Same H12 H' → ∀ (p3 : Addr), H' p3 = none → ∀ (Q' : VK), (∀ (y : Addr) (H'' : Hp), H'' y = some (.tup ((stp ds (hn : Int)).map V.int)) → Same H12 H'' → Q' (.ref y) H'') → rCatA K (.ref z) (.ref p3) (upd H' p3 (.tup ((ds.map V.int).drop (hn + 1)))) Q' := fun z H' ez sm p3 hp3 Q' kQ => by
            have u3 := same_new (o := HO.tup ((ds.map V.int).drop (hn + 1))) hp3
            refine ⟨z, p3, _, _, rfl, rfl, SqT.of (u3 _ _ ez), SqT.of upd_same, by rw [List.length_map, List.length_append, List.length_take, List.length_singleton, List.length_drop, List.length_map, sizeLine_eq]; omega, fun e => ?_, fun _ e => ?_, fun _ _ p4 hp4 => ?_⟩
            · have : ((ds.take hn ++ [gI ds (hn : Int) + 1]).map V.int).length = 0 := by rw [e]; rfl
              rw [List.length_map, List.length_append, List.length_singleton] at this
              omega
            · refine kQ z _ ?_ (sm.trans u3)
              rw [u3 _ _ ez, ← ts]
              have : ds.drop (hn + 1) = [] := by
                have := congrArg List.length e
                rw [List.length_drop, List.length_map, List.length_nil] at this
                exact List.drop_eq_nil_of_le (by omega)
              rw [this, List.append_nil]
            · have u4 := same_new (o := HO.tup ((ds.take hn ++ [gI ds (hn : Int) + 1]).map V.int ++ (ds.map V.int).drop (hn + 1))) hp4
              refine kQ p4 _ ?_ ((sm.trans u3).trans u4)
              rw [upd_same, ← ts, List.map_append (l₁ := ds.take hn ++ [gI ds (hn : Int) + 1]), List.map_drop]
          have u12 := u1.trans u2
          have two : ∀ (Q' : VK), (∀ (z : Addr) (H' : Hp), H' z = some (.tup ((ds.take hn ++ [gI ds (hn : Int) + 1]).map V.int)) → Same H12 H' → Q' (.ref z) H') → rCatA K (.ref p1) (.ref p2) (upd (upd H12 p1 (.tup ((ds.map V.int).take hn))) p2 (.tup [V.int (gI ds (hn : Int) + 1)])) Q' := fun Q' kQ => by
            refine ⟨p1, p2, _, _, rfl, rfl, SqT.of (u2 _ _ upd_same), SqT.of upd_same, by rw [List.length_take, List.length_map, List.length_singleton, sizeLine_eq]; omega, fun e => ?_, fun _ e => (by cases e), fun _ _ p3 hp3 => ?_⟩
            · have h00 : hn = 0 := by
                have := congrArg List.length e
                rw [List.length_take, List.length_map, List.length_nil] at this
                omega
              refine kQ p2 _ ?_ u12
              rw [upd_same, h00]
              rfl
            · have u3 := same_new (o := HO.tup ((ds.map V.int).take hn ++ [V.int (gI ds (hn : Int) + 1)])) hp3
              refine kQ p3 _ ?_ (u12.trans u3)
              rw [upd_same, List.map_append, List.map_take]; rfl
          refine two _ fun z H13 ez s13 => ?_
          refine ⟨_, rfl, _, rfl, _, _, rfl, rfl, _, rfl, b, _, rfl, SqT.of (s13 _ _ hb12), by rw [List.length_map, show ((hn : Nat) : Int) + 1 = ((hn + 1 : Nat) : Int) by omega]; exact part_from hnl, fun p3 hp3 => ?_⟩
          rw [show ((hn : Nat) : Int) + 1 = ((hn + 1 : Nat) : Int) by omega, cut_drop]
          refine fin z H13 ez s13 p3 hp3 _ fun y H14 ey s14 => ?_
          -- further[longer] = further.get(longer, 0) + latest[cut]
          have hg14 := s14 _ _ hg12
          have hl14 := s14 _ _ hl12
          have hb14 := s14 _ _ hb12
          have ey' : H14 y = some (.tup ((encI (stp ds (hn : Int))).map kV)) := by rw [encI_kV]; exact ey
          have hb' : H14 b = some (.tup ((encI ds).map kV)) := by rw [encI_kV]; exact hb14
          refine ⟨_, rfl, g, rfl, .inr ⟨_, .inl hg14⟩, _, rfl, _, DGet.t (k := encI (stp ds (hn : Int))) hg14 ey', ?_⟩
          rw [val_enc]
          refine ⟨_, rfl, _, rfl, l, _, rfl, .inr ⟨_, encI ds, b, .inr ⟨ob, hl14⟩, rfl, hb', (val_at LA.nl ei).symm⟩, _, _, rfl, rfl, _, rfl, _, rfl, g, _, rfl, DPut.t (k := encI (stp ds (hn : Int))) hg14 ey' ?_, ?_⟩
          · have i5 : i < lat.length := (List.getElem?_eq_some_iff.mp ei).1
            have j8 : j < (freeH cs ns ds).length := (List.getElem?_eq_some_iff.mp ej).1
            unfold encK
            rw [List.length_map, sizeLine_eq]; omega
          rw [put_enc nf]
          have kg : Kp g H14 (upd H14 g (.dT (encK (addP fl (stp ds (hn : Int)) v)))) := Kp.set
          refine ⟨addP fl (stp ds (hn : Int)) v, _, _, rfl, fun x u e => kg _ _ ((S12.trans s14) _ _ e) (ne_of_none e hg1), kg _ _ (s14 _ _ hw12) ngw.symm, upd_same, kg _ _ hl14 ngl.symm, kg _ _ (s14 _ _ hq12) ?_, kg _ _ hb14 (ne_of hb14 hg14 (fun z => nomatch z)), add_nodup nf _ _, fun ds' hd' => ?_, ?_, fun d' => ?_, ?_⟩
          · exact ne_of (s14 _ _ hq12) hg14 (fun z => nomatch z)
          · rcases add_mem hd' with rfl | hd'
            · exact ⟨stp_ok dd h0 h1 fr, by rw [stp_sum dd h0 h1, dsum]; omega⟩
            · exact fd ds' hd'
          · rw [wsum_add, fw, tkj, List.map_append, List.sum_append, Nat.mul_add]
            simp only [List.map_cons, List.map_nil, List.sum_cons, List.sum_nil, Nat.add_zero]
            omega
          · rw [add_mem_iff, frk, tkj]
            simp only [List.mem_append, List.mem_singleton]
            constructor
            · rintro (h | h | ⟨h', m, e⟩)
              · exact .inr ⟨_, .inr rfl, h⟩
              · exact .inl h
              · exact .inr ⟨h', .inl m, e⟩
            · rintro (h | ⟨h', m | rfl, e⟩)
              · exact .inr (.inl h)
              · exact .inr (.inr ⟨h', m, e⟩)
              · exact .inl e
          · have := add_len fl (stp ds (hn : Int)) v
            omega
      · rintro σ H12 ⟨fl, x3, x4, rfl, S12, hw12, hg12, hl12, hq12, hb12, nf, fd, fw, frk, fll⟩
        refine ⟨fl, _, _, _, rfl, S12, hw12, hg12, hl12, nf, fd, ?_, fun d' => ?_, by rw [List.length_map] at fll; omega⟩
        rotate_left
        · rw [frk, tk, List.length_map, List.take_length, List.map_append]
          simp only [List.map_cons, List.map_nil, List.mem_append, List.mem_singleton]
          constructor
          · rintro (⟨es, he, h⟩ | h)
            · exact ⟨es, .inl he, h⟩
            · exact ⟨ds, .inr rfl, h⟩
          · rintro ⟨es, he | rfl, h⟩
            · exact .inl ⟨es, he, h⟩
            · exact .inr h
        rw [List.length_map, List.take_length] at fw
        rw [fw, tk]
        unfold wsum
        rw [List.map_append, List.sum_append]
        simp
    · rintro σ H10 ⟨fl, x2, x3, x4, rfl, S10, hw10, hg10, hl10, nf, fd, fw, frk, fll⟩
      have elen : (encK lat).length = lat.length := by unfold encK; rw [List.length_map]
      rw [elen, List.take_length] at fw frk
      rw [elen] at fll
      obtain ⟨LB, nle⟩ := layG_next ok.1 LG en nf fd fw frk
      refine ⟨_, ⟨l, _, ob, _, hl9, hl10, rfl⟩, ?_⟩
      have kl2 : Kp l H10 (upd H10 l (.dT (encK lat))) := Kp.set
      refine ⟨_, rfl, ?_⟩
      exact ⟨_, by omega, n + 1, fl, ws ++ lat, g, _, _, _, _, rfl, kl2 _ _ hw10 nwl, kl2 _ _ hg10 ngl, ngw.symm, hg1, fun x u e => kl2 _ _ (S10 _ _ e) (ne_of_none e hl1), LB, by omega, by omega, rfl⟩

def spHmo3 (CT : Addr) (K : PySem.W.Frag) : Sp := fun vs H Q E => ∃ (t c a : Addr) (cs : List Int) (ns : List Nt) (most : Int), vs = [.ref t, .int most] ∧ RecAt H t c a cs ns ∧ RecOk cs ns ∧ 0 ≤ most ∧ most ≤ 5000 ∧ (∀ (ks : List (List Int)) (H' : Hp), ks.Nodup → (∀ ds ∈ ks, Rch cs ns ds) → most < ks.length → Same H H' → E (.ref CT) none H') ∧ (∀ (ks : List (List Int)), ks.Nodup → (∀ ds, ds ∈ ks ↔ Rch cs ns ds) → (ks.length : Int) ≤ most → ∀ H', Same H H' → Q (.int (cntW cs ns cs.sum.toNat (zs cs) : Nat)) H')
theorem ok_hmo3 {tk : Tok} {f : Addr} {fd : FuncData} (F : FunD K "how_many_orders" "how_many_orders" s_how_many_orders [.int 2000 tk] f fd) {C_TooMany : Addr} (F_check_notes : FnAt P w K mg base 4 "check_notes" ["record"] (spCheckN K)) (F_ways_to_cuts : FnAtX P w K mg base 4 "ways_to_cuts" ["record", "most"] (spWaysG C_TooMany K)) (Bt : Blt mg) : FnOk P w K mg base (CX1 P w) 5 f fd ["record", "most"] (spHmo3 C_TooMany K) := by
  refine F.okX sc_how_many_orders (fun vs H Q E h => ?_) (fun cdv A outer s H vs Q E hr h hR => ?_)
  · obtain ⟨t, c, a, cs, ns, most, rfl, _⟩ := h
    rfl
  · obtain ⟨t, c, a, cs, ns, most, rfl, R, ok, m0, m5, kE, k⟩ := h
    have hu := hu_of hr
    refine ⟨_, (pss_cons (ps_expr (pe_fn F_check_notes (hr.mono (by decide)) (by rfl) (pa_cons (pv 0) pa_nil)))
      (pss_one (ps_ret (pe_dget2 hu (pe_fnX F_ways_to_cuts rfl hR (hr.mono (by decide)) (by rfl) (pa_cons (pv 0) (pa_cons (pv 1) pa_nil))) (pe_callTy call_tuple_of (by rfl) Bt.b_tuple bt_tuple (pa_cons (pe_ix (ix_tupK (K := K) rfl) (pv 0) pe_int (fun _ _ => rfl)) pa_nil)) pe_int ⟨rfl, rfl, rfl, rfl⟩)))), ?_⟩
    refine ⟨_, rfl, t, c, a, cs, ns, rfl, R, ok, fun H1 s1 => ?_⟩
    refine ⟨_, rfl, _, rfl, t, c, a, cs, ns, most, rfl, R.same s1, ok, m0, m5, fun ks H2 n1 n2 n3 s2 => kE ks H2 n1 n2 n3 (s1.trans s2), fun w l H2 ew eg n1 n2 n3 s2 => ?_⟩
    have R2 := (R.same s1).same s2
    refine ⟨w, rfl, .inr ⟨_, .inl ew⟩, _, rfl, _, _, _, _, rfl, rfl, SqT.of R2.1, rfl, c, _, rfl, .inl ⟨SqL.of R2.2.1, fun q hq => ?_⟩⟩
    have sq := same_new (o := HO.tup (cs.map V.int)) hq
    refine ⟨_, DGet.t (k := encI cs) (sq _ _ ew) (by rw [upd_same, encI_kV]), ?_⟩
    rw [val_enc, eg]
    exact k (l.map (·.1)) n1 n2 (by rw [List.length_map]; exact n3) _ ((s1.trans s2).trans sq)
def spHmc3 (CT : Addr) (K : PySem.W.Frag) : Sp := fun vs H Q E => ∃ (t c a : Addr) (cs : List Int) (ns : List Nt) (most : Int), vs = [.ref t, .int most] ∧ RecAt H t c a cs ns ∧ RecOk cs ns ∧ 0 ≤ most ∧ most ≤ 5000 ∧ (∀ (ks : List (List Int)) (H' : Hp), ks.Nodup → (∀ ds ∈ ks, Rch cs ns ds) → most < ks.length → Same H H' → E (.ref CT) none H') ∧ (∀ (ks : List (List Int)), ks.Nodup → (∀ ds, ds ∈ ks ↔ Rch cs ns ds) → (ks.length : Int) ≤ most → ∀ H', Same H H' → Q (.int (ks.length : Nat)) H')
theorem ok_hmc3 {tk : Tok} {f : Addr} {fd : FuncData} (F : FunD K "how_many_cuts" "how_many_cuts" s_how_many_cuts [.int 2000 tk] f fd) {C_TooMany : Addr} (F_check_notes : FnAt P w K mg base 4 "check_notes" ["record"] (spCheckN K)) (F_ways_to_cuts : FnAtX P w K mg base 4 "ways_to_cuts" ["record", "most"] (spWaysG C_TooMany K)) (Bt : Blt mg) : FnOk P w K mg base (CX1 P w) 5 f fd ["record", "most"] (spHmc3 C_TooMany K) := by
  refine F.okX sc_how_many_cuts (fun vs H Q E h => ?_) (fun cdv A outer s H vs Q E hr h hR => ?_)
  · obtain ⟨t, c, a, cs, ns, most, rfl, _⟩ := h
    rfl
  · obtain ⟨t, c, a, cs, ns, most, rfl, R, ok, m0, m5, kE, k⟩ := h
    refine ⟨_, (pss_cons (ps_expr (pe_fn F_check_notes (hr.mono (by decide)) (by rfl) (pa_cons (pv 0) pa_nil)))
      (pss_one (ps_ret (pe_callB call_lenT (by rfl) Bt.b_len bt_len (pa_cons (pe_fnX F_ways_to_cuts rfl hR (hr.mono (by decide)) (by rfl) (pa_cons (pv 0) (pa_cons (pv 1) pa_nil))) pa_nil))))), ?_⟩
    refine ⟨_, rfl, t, c, a, cs, ns, rfl, R, ok, fun H1 s1 => ?_⟩
    refine ⟨_, rfl, _, rfl, t, c, a, cs, ns, most, rfl, R.same s1, ok, m0, m5, fun ks H2 n1 n2 n3 s2 => kE ks H2 n1 n2 n3 (s1.trans s2), fun w l H2 ew eg n1 n2 n3 s2 => ?_⟩
    have := k (l.map (·.1)) n1 n2 (by rw [List.length_map]; exact n3) H2 (s1.trans s2)
    refine ⟨w, _, rfl, ew, ?_⟩
    have e : (encK l).length = (l.map (·.1)).length := by unfold encK; rw [List.length_map, List.length_map]
    rw [e]
    exact this

/-! ### rings: chains of notes -/
def lds (x y : Nt) : Prop := x.2.2.1 = y.1 ∧ x.2.2.2 ≤ y.2.1
/-- notes of ns one behind the other from the hand's touch (h, k) to (g, m) -/
inductive Chn (ns : List Nt) (h k : Int) : List Nt → Int → Int → Prop
  | nil : Chn ns h k [] h k
  | snoc {c : List Nt} {g m : Int} {x : Nt} : Chn ns h k c g m → x ∈ ns → x.1 = g → m ≤ x.2.1 → Chn ns h k (c ++ [x]) x.2.2.1 x.2.2.2
/-- by how many notes, to each hand the earliest touch -/
structure Best (ns : List Nt) (h k : Int) (n : Nat) (D : List (Int × Int × List Nt)) : Prop where
  nd : (D.map (·.1)).Nodup
  ch : ∀ e ∈ D, Chn ns h k e.2.2 e.1 e.2.1 ∧ e.2.2.length = n
  le : ∀ c g m, Chn ns h k c g m → c.length = n → ∃ e ∈ D, e.1 = g ∧ e.2.1 ≤ m
def look3 (D : List (Int × Int × List Nt)) (g : Int) : Option (Int × List Nt) := (D.find? fun e => decide (e.1 = g)).map (·.2)
theorem look3_mem {D : List (Int × Int × List Nt)} {g : Int} {r : Int × List Nt} (h : look3 D g = some r) : (g, r) ∈ D := by
  unfold look3 at h
  cases e : D.find? (fun e => decide (e.1 = g)) with
  | none => rw [e] at h; cases h
  | some q =>
    rw [e] at h
    cases h
    have h1 := List.find?_some e
    have h2 := List.mem_of_find?_eq_some e
    have : q.1 = g := of_decide_eq_true h1
    rw [← this]
    exact h2
theorem look3_none {D : List (Int × Int × List Nt)} {g : Int} (h : look3 D g = none) : ∀ e ∈ D, e.1 ≠ g := by
  unfold look3 at h
  cases e : D.find? (fun e => decide (e.1 = g)) with
  | some q => rw [e] at h; cases h
  | none =>
    intro q hq z
    have := List.find?_eq_none.mp e q hq
    exact this (decide_eq_true z)
theorem look3_of {D : List (Int × Int × List Nt)} (nd : (D.map (·.1)).Nodup) {e : Int × Int × List Nt} (h : e ∈ D) : look3 D e.1 = some e.2 := by
  induction D with
  | nil => cases h
  | cons q D ih =>
    rw [List.map_cons, List.nodup_cons] at nd
    unfold look3
    rw [List.find?_cons]
    rcases List.mem_cons.mp h with rfl | h
    · simp
    · have : ¬ q.1 = e.1 := fun z => nd.1 (by rw [z]; exact List.mem_map.mpr ⟨e, h, rfl⟩)
      simp only [this, decide_false]
      exact ih nd.2 h
/-- put in: in its place, or behind -/
def put3 (D : List (Int × Int × List Nt)) (g : Int) (r : Int × List Nt) : List (Int × Int × List Nt) := if (look3 D g).isSome then D.map fun e => if e.1 = g then (g, r) else e else D ++ [(g, r)]
theorem put3_keys (D : List (Int × Int × List Nt)) (g : Int) (r : Int × List Nt) : (put3 D g r).map (·.1) = if (look3 D g).isSome then D.map (·.1) else D.map (·.1) ++ [g] := by
  unfold put3
  split
  · rw [List.map_map]
    refine List.map_congr_left fun e _ => ?_
    show (if e.1 = g then (g, r) else e).1 = e.1
    split
    · rename_i z; exact z.symm
    · rfl
  · rw [List.map_append]; rfl
theorem put3_nd {D : List (Int × Int × List Nt)} (nd : (D.map (·.1)).Nodup) (g : Int) (r : Int × List Nt) : ((put3 D g r).map (·.1)).Nodup := by
  rw [put3_keys]
  cases e : look3 D g with
  | some q => exact nd
  | none =>
    simp only [Option.isSome_none, Bool.false_eq_true, if_false]
    refine List.nodup_append.mpr ⟨nd, by simp, fun a ha b hb => ?_⟩
    have : b = g := by simpa using hb
    subst this
    obtain ⟨q, hq, rfl⟩ := List.mem_map.mp ha
    exact look3_none e q hq
theorem put3_mem {D : List (Int × Int × List Nt)} {g : Int} {r : Int × List Nt} {e : Int × Int × List Nt} (h : e ∈ put3 D g r) : e = (g, r) ∨ (e ∈ D ∧ e.1 ≠ g) := by
  unfold put3 at h
  cases q : look3 D g with
  | some z =>
    rw [q] at h
    simp only [Option.isSome_some, if_true] at h
    obtain ⟨y, hy, rfl⟩ := List.mem_map.mp h
    by_cases w : y.1 = g
    · left; rw [if_pos w]
    · right; rw [if_neg w]; exact ⟨hy, w⟩
  | none =>
    rw [q] at h
    simp only [Option.isSome_none, Bool.false_eq_true, if_false] at h
    rcases List.mem_append.mp h with h | h
    · exact .inr ⟨h, look3_none q e h⟩
    · left; simpa using h
theorem put3_self (D : List (Int × Int × List Nt)) (g : Int) (r : Int × List Nt) : (g, r) ∈ put3 D g r := by
  unfold put3
  cases q : look3 D g with
  | some z =>
    simp only [Option.isSome_some, if_true]
    exact List.mem_map.mpr ⟨_, look3_mem q, by simp⟩
  | none => simp
theorem put3_other {D : List (Int × Int × List Nt)} {g : Int} {r : Int × List Nt} {e : Int × Int × List Nt} (h : e ∈ D) (ne : e.1 ≠ g) : e ∈ put3 D g r := by
  unfold put3
  cases q : look3 D g with
  | some z =>
    simp only [Option.isSome_some, if_true]
    exact List.mem_map.mpr ⟨e, h, by rw [if_neg ne]⟩
  | none => simp [h]
/-- one note more: what the loop does with a note -/
def stepC (C : List (Int × Int × List Nt)) (L : List (Int × Int × List Nt)) (x : Nt) : List (Int × Int × List Nt) :=
  match look3 C x.1 with
  | none => L
  | some r => if r.1 ≤ x.2.1 then (match look3 L x.2.2.1 with
      | none => put3 L x.2.2.1 (x.2.2.2, r.2 ++ [x])
      | some q => if x.2.2.2 < q.1 then put3 L x.2.2.1 (x.2.2.2, r.2 ++ [x]) else L) else L
def longC (ns : List Nt) (C : List (Int × Int × List Nt)) : List (Int × Int × List Nt) := ns.foldl (stepC C) []
/-- what the loop keeps behind the first notes -/
structure Half (ns ms : List Nt) (h k : Int) (n : Nat) (L : List (Int × Int × List Nt)) : Prop where
  nd : (L.map (·.1)).Nodup
  ch : ∀ e ∈ L, Chn ns h k e.2.2 e.1 e.2.1 ∧ e.2.2.length = n + 1
  le : ∀ c g m x, Chn ns h k c g m → c.length = n → x ∈ ms → x.1 = g → m ≤ x.2.1 → ∃ e ∈ L, e.1 = x.2.2.1 ∧ e.2.1 ≤ x.2.2.2
theorem half_step {ns ms : List Nt} {h k : Int} {n : Nat} {C L : List (Int × Int × List Nt)} (B : Best ns h k n C) (A : Half ns ms h k n L) {x : Nt} (hx : x ∈ ns) : Half ns (ms ++ [x]) h k n (stepC C L x) := by
  unfold stepC
  -- the new entry, if any
  cases e : look3 C x.1 with
  | none =>
    refine ⟨A.nd, A.ch, fun c g m y hc hl hy e1 e2 => ?_⟩
    rcases List.mem_append.mp hy with hy | hy
    · exact A.le c g m y hc hl hy e1 e2
    · have : y = x := by simpa using hy
      subst this
      obtain ⟨q, hq, q1, q2⟩ := B.le c g m hc hl
      exact absurd (q1.trans e1.symm) (look3_none e q hq)
  | some r =>
    have hr := look3_mem e
    obtain ⟨rc, rl⟩ := B.ch _ hr
    dsimp only
    by_cases w : r.1 ≤ x.2.1
    rotate_left
    · rw [if_neg w]
      refine ⟨A.nd, A.ch, fun c g m y hc hl hy e1 e2 => ?_⟩
      rcases List.mem_append.mp hy with hy | hy
      · exact A.le c g m y hc hl hy e1 e2
      · have : y = x := by simpa using hy
        subst this
        obtain ⟨q, hq, q1, q2⟩ := B.le c g m hc hl
        have := look3_of B.nd hq
        rw [q1, ← e1, e] at this
        cases this
        exact absurd (Int.le_trans q2 e2) w
    rw [if_pos w]
    have new : Chn ns h k (r.2 ++ [x]) x.2.2.1 x.2.2.2 := .snoc rc hx rfl w
    have put : ((∀ q, look3 L x.2.2.1 = some q → x.2.2.2 ≤ q.1)) → Half ns (ms ++ [x]) h k n (put3 L x.2.2.1 (x.2.2.2, r.2 ++ [x])) := fun ge => by
      refine ⟨put3_nd A.nd _ _, fun y hy => ?_, fun c g m y hc hl hy e1 e2 => ?_⟩
      · rcases put3_mem hy with rfl | ⟨hy, _⟩
        · exact ⟨new, by rw [List.length_append, rl]; rfl⟩
        · exact A.ch y hy
      · by_cases z : y.2.2.1 = x.2.2.1
        · refine ⟨_, put3_self L x.2.2.1 (x.2.2.2, r.2 ++ [x]), z.symm, ?_⟩
          rcases List.mem_append.mp hy with hy | hy
          · obtain ⟨q, hq, q1, q2⟩ := A.le c g m y hc hl hy e1 e2
            have := look3_of A.nd hq
            rw [q1, z] at this
            have := ge _ this
            show x.2.2.2 ≤ y.2.2.2
            omega
          · have : y = x := by simpa using hy
            subst this
            exact Int.le_refl _
        · rcases List.mem_append.mp hy with hy | hy
          · obtain ⟨q, hq, q1, q2⟩ := A.le c g m y hc hl hy e1 e2
            exact ⟨q, put3_other hq (fun v => z (q1.symm.trans v)), q1, q2⟩
          · have : y = x := by simpa using hy
            subst this
            exact absurd rfl z
    cases f : look3 L x.2.2.1 with
    | none => exact put fun q z => by rw [f] at z; cases z
    | some q =>
      dsimp only
      by_cases v : x.2.2.2 < q.1
      · rw [if_pos v]
        exact put fun q' z => by rw [f] at z; cases z; omega
      · rw [if_neg v]
        refine ⟨A.nd, A.ch, fun c g m y hc hl hy e1 e2 => ?_⟩
        rcases List.mem_append.mp hy with hy | hy
        · exact A.le c g m y hc hl hy e1 e2
        · have : y = x := by simpa using hy
          subst this
          exact ⟨_, look3_mem f, rfl, by show q.1 ≤ _; omega⟩
theorem chn_cut {ns : List Nt} {h k : Int} {n : Nat} {c : List Nt} {g m : Int} (hc : Chn ns h k c g m) (hl : c.length = n + 1) : ∃ c' x m', c = c' ++ [x] ∧ Chn ns h k c' x.1 m' ∧ c'.length = n ∧ x ∈ ns ∧ m' ≤ x.2.1 ∧ g = x.2.2.1 ∧ m = x.2.2.2 := by
  cases hc with
  | nil => cases hl
  | @snoc c' g' m' x hc' hx e1 e2 =>
    subst e1
    exact ⟨c', x, m', rfl, hc', by simpa using hl, hx, e2, rfl, rfl⟩
theorem half_best {ns : List Nt} {h k : Int} {n : Nat} {L : List (Int × Int × List Nt)} (A : Half ns ns h k n L) : Best ns h k (n + 1) L := by
  refine ⟨A.nd, A.ch, fun c g m hc hl => ?_⟩
  obtain ⟨c', x, m', rfl, hc', hl', hx, e2, rfl, rfl⟩ := chn_cut hc hl
  exact A.le c' x.1 m' x hc' hl' hx rfl e2
theorem half0 (ns : List Nt) (h k : Int) (n : Nat) : Half ns [] h k n [] := ⟨by simp, fun e he => (by cases he), fun c g m x _ _ hx => (by cases hx)⟩
theorem best0 (ns : List Nt) (h k : Int) : Best ns h k 0 [(h, k, [])] := by
  refine ⟨by simp, fun e he => ?_, fun c g m hc hl => ?_⟩
  · have : e = (h, k, []) := by simpa using he
    subst this
    exact ⟨.nil, rfl⟩
  · cases hc with
    | nil => exact ⟨_, List.mem_singleton.mpr rfl, rfl, Int.le_refl _⟩
    | snoc _ _ _ _ => simp at hl
/-- a ring that begins with the hand's touch (h, k) -/
def RingF (ns : List Nt) (h k : Int) (c : List Nt) : Prop := c ≠ [] ∧ ∃ m, Chn ns h k c h m ∧ m ≤ k

/-! ### chains in the heap; longer_chains -/
abbrev Chs := List (Int × Int × List Nt)
def EntR (B H : Hp) (p : Key × V) (e : Int × Int × List Nt) : Prop := p.1 = Sum.inl e.1 ∧ ∃ t l, p.2 = .ref t ∧ H t = some (.tup [.int e.2.1, .ref l]) ∧ NtsAt H l e.2.2 ∧ B l = none
def ChR (B H : Hp) : List (Key × V) → Chs → Prop
  | [], [] => True
  | p :: ps, e :: es => EntR B H p e ∧ ChR B H ps es
  | _, _ => False
def ChAt (B H : Hp) (d : Addr) (D : Chs) : Prop := ∃ kvs, H d = some (.dK kvs) ∧ ChR B H kvs D
theorem ChR.imp {B H H' : Hp} (f : ∀ p e, EntR B H p e → EntR B H' p e) : ∀ {kvs : List (Key × V)} {D : Chs}, ChR B H kvs D → ChR B H' kvs D
  | [], [], _ => True.intro
  | _ :: _, _ :: _, h => ⟨f _ _ h.1, ChR.imp f h.2⟩
  | [], _ :: _, h => h.elim
  | _ :: _, [], h => h.elim
theorem EntR.same {B H H' : Hp} (s : Same H H') {p : Key × V} {e : Int × Int × List Nt} (h : EntR B H p e) : EntR B H' p e := by
  obtain ⟨e1, t, l, e2, e3, e4, e5⟩ := h
  exact ⟨e1, t, l, e2, s _ _ e3, e4.same s, e5⟩
theorem EntR.kp {B H H' : Hp} {d : Addr} {ks : List (Key × V)} (hd : H d = some (.dK ks)) (k : Kp d H H') {p : Key × V} {e : Int × Int × List Nt} (h : EntR B H p e) : EntR B H' p e := by
  obtain ⟨e1, t, l, e2, e3, e4, e5⟩ := h
  have tp := k.tups' hd
  obtain ⟨vs, q1, _⟩ := id e4
  exact ⟨e1, t, l, e2, tp _ _ e3, e4.kp tp k (ne_of q1 hd (fun z => nomatch z)), e5⟩
theorem ChR.length {B H : Hp} : ∀ {kvs : List (Key × V)} {D : Chs}, ChR B H kvs D → kvs.length = D.length
  | [], [], _ => rfl
  | _ :: _, _ :: _, h => by rw [List.length_cons, List.length_cons, ChR.length h.2]
  | [], _ :: _, h => h.elim
  | _ :: _, [], h => h.elim
theorem ChR.val {B H : Hp} (g : Int) : ∀ {kvs : List (Key × V)} {D : Chs}, ChR B H kvs D → (valV kvs (Sum.inl g) = none ∧ look3 D g = none) ∨ ∃ r t l, valV kvs (Sum.inl g) = some (.ref t) ∧ look3 D g = some r ∧ H t = some (.tup [.int r.1, .ref l]) ∧ NtsAt H l r.2 ∧ B l = none
  | [], [], _ => .inl ⟨rfl, rfl⟩
  | [], _ :: _, h => h.elim
  | _ :: _, [], h => h.elim
  | p :: ps, e :: es, h => by
    obtain ⟨⟨e1, t, l, e2, e3, e4, e5⟩, h2⟩ := h
    by_cases q : e.1 = g
    · refine .inr ⟨e.2, t, l, ?_, ?_, e3, e4, e5⟩
      · rw [valV_pos (by rw [e1, q]), e2]
      · unfold look3; rw [List.find?_cons]; simp [q]
    · have ih := ChR.val g h2
      rw [valV_neg (by rw [e1]; intro z; exact q (Sum.inl.inj z))]
      have : look3 (e :: es) g = look3 es g := by unfold look3; rw [List.find?_cons]; simp [q]
      rw [this]
      exact ih
theorem ChR.repl {B H : Hp} {g m : Int} {c : List Nt} {t l : Addr} (ht : H t = some (.tup [.int m, .ref l])) (hl : NtsAt H l c) (bl : B l = none) : ∀ {kvs : List (Key × V)} {D : Chs}, ChR B H kvs D → ChR B H (kvs.map fun kv => if kv.1 = Sum.inl g then (kv.1, V.ref t) else kv) (D.map fun e => if e.1 = g then (g, (m, c)) else e)
  | [], [], _ => True.intro
  | [], _ :: _, h => h.elim
  | _ :: _, [], h => h.elim
  | p :: ps, e :: es, h => by
    obtain ⟨h1, h2⟩ := h
    refine ⟨?_, ChR.repl ht hl bl h2⟩
    have e1 := h1.1
    dsimp only
    by_cases q : e.1 = g
    · rw [if_pos (show p.1 = Sum.inl g by rw [e1, q]), if_pos q]
      exact ⟨by rw [← q]; exact e1, t, l, rfl, ht, hl, bl⟩
    · rw [if_neg (show ¬ p.1 = Sum.inl g by rw [e1]; intro z; exact q (Sum.inl.inj z)), if_neg q]
      exact h1
theorem ChR.snoc {B H : Hp} {p : Key × V} {e : Int × Int × List Nt} (h : EntR B H p e) : ∀ {kvs : List (Key × V)} {D : Chs}, ChR B H kvs D → ChR B H (kvs ++ [p]) (D ++ [e])
  | [], [], _ => ⟨h, True.intro⟩
  | [], _ :: _, h => h.elim
  | _ :: _, [], h => h.elim
  | _ :: _, _ :: _, h' => ⟨h'.1, ChR.snoc h h'.2⟩
theorem ChR.put {B H : Hp} {g m : Int} {c : List Nt} {t l : Addr} (ht : H t = some (.tup [.int m, .ref l])) (hl : NtsAt H l c) (bl : B l = none) {kvs : List (Key × V)} {D : Chs} (h : ChR B H kvs D) : ChR B H (putK kvs (Sum.inl g) (.ref t)) (put3 D g (m, c)) := by
  unfold putK put3
  rw [valV_any]
  rcases h.val g with ⟨e1, e2⟩ | ⟨r, t', l', e1, e2, _⟩
  · rw [e1, e2]
    exact ChR.snoc ⟨rfl, t, l, rfl, ht, hl, bl⟩ h
  · rw [e1, e2]
    exact ChR.repl ht hl bl h
theorem stepC_len (C L : Chs) (x : Nt) : (stepC C L x).length ≤ L.length + 1 := by
  have p : ∀ g r, (put3 L g r).length ≤ L.length + 1 := fun g r => by
    unfold put3
    split
    · rw [List.length_map]; omega
    · rw [List.length_append]; exact Nat.le_refl _
  unfold stepC
  split
  · omega
  · split
    · split
      · exact p _ _
      · split
        · exact p _ _
        · omega
    · omega
theorem orGoal2 {c A B : Prop} [Decidable c] (P : Prop) (hA : P → A) (hc : c → P) (hB : ¬ c → (P → A) → B) : if c then A else B := by
  by_cases h : c
  · rw [if_pos h]; exact hA (hc h)
  · rw [if_neg h]; exact hB h hA
def spLonger (K : PySem.W.Frag) : Sp := fun vs H Q _ => ∃ (t c a d : Addr) (cs : List Int) (ns : List Nt) (C : Chs) (B : Hp), vs = [.ref t, .ref d] ∧ Same B H ∧ RecAt H t c a cs ns ∧ ns.length ≤ 200 ∧ ChAt B H d C ∧ (∀ e ∈ C, e.2.2.length ≤ 100) ∧ ∀ (d' : Addr) (H' : Hp), H d' = none → ChAt B H' d' (longC ns C) → Same H H' → Q (.ref d') H'
theorem ok_longer {f : Addr} {fd : FuncData} (F : Fun K "longer_chains" "longer_chains" s_longer_chains f fd) : FnOk P w K mg base CX0 1 f fd ["record", "chains"] (spLonger K) := by
  refine F.ok sc_longer_chains (fun vs H Q E h => ?_) (fun cdv A outer s H vs Q E hr h => ?_)
  · obtain ⟨t, c, a, d, cs, ns, C, B, rfl, _⟩ := h
    rfl
  · obtain ⟨t, c, a, d, cs, ns, C, B, rfl, sB, R, nl, ⟨kc, hd, cr⟩, cl, k⟩ := h
    have hu := hu_of hr
    obtain ⟨ht, hc, nvs, ha, dn⟩ := id R
    have nvl : nvs.length = ns.length := by rw [dn.length, List.length_map]
    refine ⟨_, (pss_cons (ps_set (i := 2) sc_longer_chains.nd rfl (Or.inl rfl) pe_dnewK)
      (pss_cons (ps_for PassesOwn.never rfl (pi_listK (K := K) rfl (pe_ix (ix_tupK (K := K) rfl) (pv 0) pe_int (fun _ _ => rfl))) (pg_name (i := 3) sc_longer_chains.nd rfl (Or.inl rfl))
      (pss_cons (ps_set (i := 4) sc_longer_chains.nd rfl (Or.inl rfl) (pe_dget1 hu (pv 1) (pe_ix (ix_tupK (K := K) rfl) (pv 3) pe_int (fun _ _ => rfl)) ⟨rfl, rfl, rfl, rfl⟩))
      (pss_one (ps_if (PW.pt (pw_and (pt_cmpR op_notN (pv 4) pe_non (nomark _)) (pw_and1 (pt_cmpR op_le (pe_ix (ix_tupK (K := K) rfl) (pv 4) pe_int (fun _ _ => rfl)) (pe_ix (ix_tupK (K := K) rfl) (pv 3) pe_int (fun _ _ => rfl)) (nomark _))))) (pss_one (ps_if (PW.pt (pw_or (pt_cmp (pc_dnotin hu (pe_ix (ix_tupK (K := K) rfl) (pv 3) pe_int (fun _ _ => rfl)) (pv 2))) (pw_or1 (pt_cmpR op_lt (pe_ix (ix_tupK (K := K) rfl) (pv 3) pe_int (fun _ _ => rfl)) (pe_ix (ix_seqK (K := K) rfl) (pe_dget hu (pv 2) (pe_ix (ix_tupK (K := K) rfl) (pv 3) pe_int (fun _ _ => rfl)) (fun _ _ => rfl)) pe_int (fun _ _ => rfl)) (nomark _))))) (pss_one (ps_dput hu (pv 2) (pe_ix (ix_tupK (K := K) rfl) (pv 3) pe_int (fun _ _ => rfl)) (pe_tup (pa_cons (pe_ix (ix_tupK (K := K) rfl) (pv 3) pe_int (fun _ _ => rfl)) (pa_cons (pe_op op_cat (pe_ix (ix_tupK (K := K) rfl) (pv 4) pe_int (fun _ _ => rfl)) (pe_lst (pa_cons (pv 3) pa_nil))) pa_nil))) rfl)) pss_nil)) pss_nil))))
      (pss_one (ps_ret (pv 2))))), ?_⟩
    intro f hf
    have s1 := same_new (o := HO.dK []) hf
    refine ⟨_, rfl, _, _, _, _, rfl, rfl, SqT.of (s1 _ _ ht), rfl, a, rfl, ⟨_, SqL.of (s1 _ _ ha)⟩, ?_⟩
    refine for_list (K := K) (a := a) (xs := nvs) (fun i σ H2 => ∃ (x1 x2 : Option V) (kvs : List (Key × V)) (L : Chs), σ = [some (.ref t), some (.ref d), some (.ref f), x1, x2] ∧ Same H H2 ∧ H2 f = some (.dK kvs) ∧ ChR B H2 kvs L ∧ L.length ≤ i ∧ longC ns C = (ns.drop i).foldl (stepC C) L)
      ⟨none, none, [], [], rfl, s1, upd_same, True.intro, Nat.zero_le _, rfl⟩ (fun i σ H2 _ ⟨_, _, _, _, _, sm, _⟩ => SqL.of (sm _ _ ha)) ?_ ?_
    · rintro i v σ H2 hi ⟨x1, x2, kvs, L, rfl, sm, hF, rel, ll, fold⟩
      obtain ⟨x, w, ex, rfl, hx⟩ := nts_get dn hi
      have il : i < ns.length := (List.getElem?_eq_some_iff.mp ex).1
      have hx2 := sm _ _ hx
      have hd2 := sm _ _ hd
      have cr2 : ChR B H2 kc C := cr.imp fun _ _ h => h.same sm
      have dr : ns.drop i = x :: ns.drop (i + 1) := by
        rw [List.drop_eq_getElem_cons il]
        congr 1
        exact (List.getElem?_eq_some_iff.mp ex).2
      rw [dr, List.foldl_cons] at fold
      have kl := rel.length
      refine ⟨_, rfl, d, rfl, .inl ⟨_, .inl hd2⟩, _, rfl, _, _, _, _, rfl, rfl, SqT.of hx2, rfl, _, DGet.k (k := Sum.inl x.1) hd2, ?_⟩
      have st0 : stepC C L x = L → ∃ (y1 y2 : Option V) (kvs' : List (Key × V)) (L' : Chs), [some (V.ref t), some (.ref d), some (.ref f), some (.ref w), some ((valV kc (Sum.inl x.1)).getD .non)] = [some (.ref t), some (.ref d), some (.ref f), y1, y2] ∧ Same H H2 ∧ H2 f = some (.dK kvs') ∧ ChR B H2 kvs' L' ∧ L'.length ≤ i + 1 ∧ longC ns C = (ns.drop (i + 1)).foldl (stepC C) L' := fun es => ⟨_, _, kvs, L, rfl, sm, hF, rel, by omega, by rw [fold, es]⟩
      refine ⟨_, rfl, rfl, _, rfl, ?_⟩
      rcases cr2.val x.1 with ⟨e1, e2⟩ | ⟨r, tc, lc, e1, e2, htc, hlc, _⟩
      · rw [e1] at st0 ⊢
        refine ite2 (fun q => absurd q (by simp)) (fun _ => ?_)
        exact st0 (by unfold stepC; rw [e2])
      rw [e1] at st0 ⊢
      refine ite2 (fun _ => ?_) (fun q => absurd (by simp) q)
      refine ⟨_, rfl, _, _, _, _, rfl, rfl, SqT.of htc, rfl, _, rfl, _, _, _, _, rfl, rfl, SqT.of hx2, rfl, _, _, rfl, rfl, _, rfl, ?_⟩
      by_cases w1 : r.1 ≤ x.2.1
      rotate_left
      · rw [decide_eq_false w1]
        refine iteF ?_
        exact st0 (by unfold stepC; rw [e2]; dsimp only; rw [if_neg w1])
      rw [decide_eq_true w1]
      refine iteT ?_
      -- the longer chain put in
      refine ⟨_, rfl, _, _, _, _, rfl, rfl, SqT.of hx2, rfl, _, rfl, f, _, rfl, DGet.k (k := Sum.inl x.2.2.1) hF, _, rfl, ?_⟩
      refine orGoal2 (stepC C L x = put3 L x.2.2.1 (x.2.2.2, r.2 ++ [x])) (fun es => ?_) (fun z => ?_) (fun z body => ?_)
      · obtain ⟨wl, hl2, dl2⟩ := id hlc
        have wll : wl.length = r.2.length := by rw [dl2.length, List.length_map]
        have rl : r.2.length ≤ 100 := cl _ (look3_mem e2)
        refine ⟨_, rfl, _, _, _, _, rfl, rfl, SqT.of hx2, rfl, _, rfl, _, _, _, _, rfl, rfl, SqT.of htc, rfl, _, rfl, (by show 1 ≤ sizeLine; decide), fun p1 hp1 => ?_⟩
        have u1 := same_new (o := HO.lst [V.ref w]) hp1
        refine ⟨lc, p1, _, _, rfl, rfl, u1 _ _ hl2, upd_same, by rw [sizeLine_eq, List.length_singleton]; omega, fun p2 hp2 => ?_⟩
        have u2 := same_new (o := HO.lst (wl ++ [V.ref w])) hp2
        refine ⟨(by show 2 ≤ sizeLine; decide), fun p3 hp3 => ?_⟩
        have u3 := same_new (o := HO.tup [V.int x.2.2.2, V.ref p2]) hp3
        have u13 := (u1.trans u2).trans u3
        have N3 : NtsAt (upd (upd (upd H2 p1 (.lst [V.ref w])) p2 (.lst (wl ++ [V.ref w]))) p3 (.tup [V.int x.2.2.2, V.ref p2])) p2 (r.2 ++ [x]) := ⟨_, u3 _ _ upd_same, by
          rw [List.map_append]
          exact dats_snoc (Dats.keep u13.tups _ (imms_map _ imm_nD _) dl2) (dat_nt (u13 _ _ hx2))⟩
        have T3 : (upd (upd (upd H2 p1 (.lst [V.ref w])) p2 (.lst (wl ++ [V.ref w]))) p3 (.tup [V.int x.2.2.2, V.ref p2])) p3 = some (.tup [.int x.2.2.2, .ref p2]) := upd_same
        have hF3 := u13 _ _ hF
        have bl3 : B p2 = none := (sB.trans sm).free (u1.free hp2)
        have S3 := sm.trans u13
        have rel3 : ChR B _ kvs L := rel.imp fun _ _ h => h.same u13
        have hx3 := u13 _ _ hx2
        generalize (upd (upd (upd H2 p1 (.lst [V.ref w])) p2 (.lst (wl ++ [V.ref w]))) p3 (.tup [V.int x.2.2.2, V.ref p2])) = H3 at N3 T3 hF3 S3 rel3 hx3 ⊢
        refine ⟨_, rfl, _, rfl, _, _, _, _, rfl, rfl, SqT.of hx3, rfl, f, _, rfl, DPut.k (k := Sum.inl x.2.2.1) hF3 (by rw [sizeLine_eq]; omega), ?_⟩
        have kf : Kp f H3 (upd H3 f (.dK (putK kvs (Sum.inl x.2.2.1) (.ref p3)))) := Kp.set
        refine ⟨_, _, _, put3 L x.2.2.1 (x.2.2.2, r.2 ++ [x]), rfl, fun b u e => kf _ _ (S3 _ _ e) (ne_of_none e hf), upd_same, (ChR.put T3 N3 bl3 rel3).imp fun _ _ h => h.kp hF3 kf, ?_, by rw [fold, es]⟩
        rw [← es]
        have := stepC_len C L x
        omega
      · rcases rel.val x.2.2.1 with ⟨f1, f2⟩ | ⟨q, tq, lq, f1, f2, htq, hlq, _⟩
        · unfold stepC; rw [e2]; dsimp only; rw [if_pos w1, f2]
        · rw [f1] at z; exact absurd z (by simp)
      · rcases rel.val x.2.2.1 with ⟨f1, f2⟩ | ⟨q, tq, lq, f1, f2, htq, hlq, _⟩
        · rw [f1] at z; exact absurd (by simp) z
        refine ⟨_, rfl, _, _, _, _, rfl, rfl, SqT.of hx2, rfl, _, rfl, _, rfl, _, _, _, _, rfl, rfl, SqT.of hx2, rfl, f, _, rfl, .inl ⟨_, Sum.inl x.2.2.1, .inl hF, rfl, f1.symm⟩, .inr (.inl ⟨tq, _, 0, _, rfl, rfl, SqT.of htq, rfl, _, _, rfl, rfl, _, rfl, ?_⟩)⟩
        by_cases w2 : x.2.2.2 < q.1
        · rw [decide_eq_true w2]
          exact body (by unfold stepC; rw [e2]; dsimp only; rw [if_pos w1, f2]; dsimp only; rw [if_pos w2])
        · rw [decide_eq_false w2]
          refine iteF ?_
          exact st0 (by unfold stepC; rw [e2]; dsimp only; rw [if_pos w1, f2]; dsimp only; rw [if_neg w2])
    · rintro σ H2 ⟨x1, x2, kvs, L, rfl, sm, hF, rel, ll, fold⟩
      refine ⟨_, rfl, k f H2 hf ⟨kvs, hF, ?_⟩ sm⟩
      rw [nvl, List.drop_length, List.foldl_nil] at fold
      rw [fold]
      exact rel

/-! ### rings: what is short -/
def Lk : List Nt → Prop
  | [] => True
  | [_] => True
  | x :: y :: r => lds x y ∧ Lk (y :: r)
theorem lk_app {x : Nt} {r : List Nt} : ∀ (l : List Nt), Lk (l ++ x :: r) ↔ Lk (l ++ [x]) ∧ Lk (x :: r)
  | [] => ⟨fun h => ⟨True.intro, h⟩, fun h => h.2⟩
  | [y] => ⟨fun h => ⟨⟨h.1, True.intro⟩, h.2⟩, fun h => ⟨h.1.1, h.2⟩⟩
  | y :: z :: l => by
    have ih := lk_app (x := x) (r := r) (z :: l)
    constructor
    · intro h
      have h2 : Lk ((z :: l) ++ x :: r) := h.2
      exact ⟨⟨h.1, (ih.mp h2).1⟩, (ih.mp h2).2⟩
    · intro h
      exact ⟨h.1.1, ih.mpr ⟨h.1.2, h.2⟩⟩
theorem lk_last {y z : Nt} (e : y.1 = z.1) (le : y.2.1 ≤ z.2.1) : ∀ (l : List Nt), Lk (l ++ [y]) → Lk (l ++ [z])
  | [], _ => True.intro
  | [w], h => ⟨⟨h.1.1.trans e, Int.le_trans h.1.2 le⟩, True.intro⟩
  | w :: v :: l, h => ⟨h.1, lk_last e le (v :: l) h.2⟩
/-- a ring of these notes -/
def Rng (ns c : List Nt) : Prop := ∃ x r, c = x :: r ∧ (∀ y ∈ c, y ∈ ns) ∧ Lk (x :: r ++ [x])
theorem dup_split {α : Type} (f : α → Int) : ∀ (c : List α), ¬ (c.map f).Nodup → ∃ a y b z d, c = a ++ y :: b ++ z :: d ∧ f y = f z
  | [], h => absurd List.nodup_nil h
  | x :: r, h => by
    rw [List.map_cons, List.nodup_cons] at h
    by_cases m : f x ∈ r.map f
    · obtain ⟨z, hz, e⟩ := List.mem_map.mp m
      obtain ⟨b, d, rfl⟩ := List.append_of_mem hz
      exact ⟨[], x, b, z, d, rfl, e.symm⟩
    · obtain ⟨a, y, b, z, d, rfl, e⟩ := dup_split f r fun nd => h ⟨m, nd⟩
      exact ⟨x :: a, y, b, z, d, rfl, e⟩
theorem many_dup {n : Nat} {l : List Int} (h : ∀ x ∈ l, 0 ≤ x ∧ x < n) (lt : n < l.length) : ¬ l.Nodup := fun nd => by
  have h2 : (l.map Int.toNat).Nodup := by
    refine List.pairwise_map.mpr (List.Pairwise.imp_of_mem (fun {a b} ha hb ne z => ne ?_) nd)
    have := h a ha
    have := h b hb
    omega
  have := nodup_lt n _ h2 fun x hx => by
    obtain ⟨y, hy, rfl⟩ := List.mem_map.mp hx
    have := h y hy
    omega
  rw [List.length_map] at this
  omega
theorem ring_less {cs : List Int} {ns : List Nt} (ok : RecOk cs ns) {c : List Nt} (R : Rng ns c) (lt : cs.length < c.length) : ∃ c', Rng ns c' ∧ c'.length < c.length := by
  obtain ⟨x, r, rfl, mem, lk⟩ := R
  obtain ⟨a, y, b, z, d, ec, e⟩ := dup_split (fun t : Nt => t.1) (x :: r) (many_dup (n := cs.length) (fun v hv => by
    obtain ⟨t, ht, rfl⟩ := List.mem_map.mp hv
    exact (ok.2.2 t (mem t ht)).1) (by rw [List.length_map]; exact lt))
  rw [ec] at lk mem lt ⊢
  have lk1 : Lk (a ++ y :: (b ++ z :: (d ++ [x]))) := by simpa using lk
  obtain ⟨l1, l2⟩ := (lk_app a).mp lk1
  have l3 : Lk ((y :: b) ++ z :: (d ++ [x])) := l2
  obtain ⟨l4, l5⟩ := (lk_app (y :: b)).mp l3
  rcases Int.le_total z.2.1 y.2.1 with w | w
  · refine ⟨y :: b, ⟨y, b, rfl, fun v hv => mem v ?_, lk_last e.symm w _ l4⟩, by simp; omega⟩
    exact List.mem_append.mpr (.inl (List.mem_append.mpr (.inr hv)))
  · have l6 := lk_last e w _ l1
    cases a with
    | nil =>
      have ex : x = y := by simpa using (List.cons.inj ec).1
      subst ex
      refine ⟨z :: d, ⟨z, d, rfl, fun v hv => mem v ?_, lk_last e w (z :: d) l5⟩, by simp; omega⟩
      simp only [List.nil_append, List.mem_append]
      exact .inr hv
    | cons x' a =>
      have ex : x = x' := by simpa using (List.cons.inj ec).1
      subst ex
      refine ⟨x :: (a ++ z :: d), ⟨x, _, rfl, fun v hv => mem v ?_, ?_⟩, by simp; omega⟩
      · simp only [List.cons_append, List.mem_cons, List.mem_append] at hv ⊢
        rcases hv with hv | hv | hv
        · exact .inl hv
        · exact .inr (.inl (.inl hv))
        · exact .inr (.inr hv)
      · have : Lk ((x :: a) ++ z :: (d ++ [x])) := (lk_app (x :: a)).mpr ⟨l6, l5⟩
        simpa using this
theorem ring_short {cs : List Int} {ns : List Nt} (ok : RecOk cs ns) : ∀ (n : Nat) (c : List Nt), c.length ≤ n → Rng ns c → ∃ c', Rng ns c' ∧ c'.length ≤ cs.length ∧ c'.length ≤ c.length
  | 0, c, l, R => by
    obtain ⟨x, r, rfl, _⟩ := R
    simp at l
  | n + 1, c, l, R => by
    by_cases h : c.length ≤ cs.length
    · exact ⟨c, R, h, Nat.le_refl _⟩
    · obtain ⟨c1, R1, l1⟩ := ring_less ok R (by omega)
      obtain ⟨c2, R2, l2, l3⟩ := ring_short ok n c1 (by omega) R1
      exact ⟨c2, R2, l2, by omega⟩
theorem chn_lk {ns : List Nt} {h k : Int} {c : List Nt} {g m : Int} (hc : Chn ns h k c g m) : (∀ y ∈ c, y ∈ ns) ∧ (∀ x r, c = x :: r → x.1 = h ∧ k ≤ x.2.1) ∧ (c = [] → g = h ∧ m = k) ∧ ∀ y : Nt, g = y.1 → m ≤ y.2.1 → Lk (c ++ [y]) := by
  induction hc with
  | nil => exact ⟨fun y hy => (by cases hy), fun x r e => (by cases e), fun _ => ⟨rfl, rfl⟩, fun y _ _ => True.intro⟩
  | @snoc c g m x hc hx e1 e2 ih =>
    obtain ⟨i1, i2, i3, i4⟩ := ih
    refine ⟨fun y hy => ?_, fun z r e => ?_, fun e => (by simp at e), fun y f1 f2 => ?_⟩
    · rcases List.mem_append.mp hy with hy | hy
      · exact i1 y hy
      · have : y = x := by simpa using hy
        exact this ▸ hx
    · cases c with
      | nil =>
        obtain ⟨j1, j2⟩ := i3 rfl
        have : x = z := by simpa using (List.cons.inj e).1
        subst this
        exact ⟨e1.trans j1, by omega⟩
      | cons z' c =>
        have : z' = z := by simpa using (List.cons.inj e).1
        subst this
        exact i2 z' c rfl
    · have := i4 x e1.symm e2
      rw [List.append_assoc]
      exact (lk_app c).mpr ⟨this, ⟨⟨f1, f2⟩, True.intro⟩⟩
theorem ringF_rng {ns : List Nt} {h k : Int} {c : List Nt} (R : RingF ns h k c) : Rng ns c := by
  obtain ⟨ne, m, hc, le⟩ := R
  obtain ⟨i1, i2, _, i4⟩ := chn_lk hc
  cases c with
  | nil => exact absurd rfl ne
  | cons x r =>
    obtain ⟨j1, j2⟩ := i2 x r rfl
    exact ⟨x, r, rfl, i1, i4 x j1.symm (by omega)⟩
theorem lk_chn {ns : List Nt} : ∀ (n : Nat) (l : List Nt) (x y : Nt) (r : List Nt), l.length = n → l = x :: r → (∀ z ∈ l, z ∈ ns) → Lk (l ++ [y]) → ∃ m, Chn ns x.1 x.2.1 l y.1 m ∧ m ≤ y.2.1
  | 0, l, x, y, r, hl, e, _, _ => by subst e; simp at hl
  | n + 1, l, x, y, r, hl, e, mem, lk => by
    rcases List.eq_nil_or_concat l with rfl | ⟨l', w, rfl⟩
    · cases e
    have hw : w ∈ ns := mem w (by simp)
    cases l' with
    | nil =>
      have : w = x := by simpa using (List.cons.inj e).1
      subst this
      have h : lds w y := lk.1
      refine ⟨w.2.2.2, ?_, h.2⟩
      rw [← h.1]
      exact Chn.snoc (c := []) .nil hw rfl (Int.le_refl _)
    | cons x' r' =>
      have : x' = x := by simpa using (List.cons.inj e).1
      subst this
      have lk2 : Lk ((x' :: r') ++ w :: [y]) := by simpa using lk
      obtain ⟨l1, l2⟩ := (lk_app (x' :: r')).mp lk2
      obtain ⟨m, hc, hm⟩ := lk_chn n (x' :: r') x' w r' (by simpa using hl) rfl (fun z hz => mem z (by simp only [List.concat_eq_append, List.mem_append]; exact .inl hz)) l1
      have h : lds w y := l2.1
      refine ⟨w.2.2.2, ?_, h.2⟩
      rw [← h.1, List.concat_eq_append]
      exact .snoc hc hw rfl hm
theorem rng_ringF {ns : List Nt} {x : Nt} {r : List Nt} (R : Rng ns (x :: r)) : RingF ns x.1 x.2.1 (x :: r) := by
  obtain ⟨x', r', e, mem, lk⟩ := R
  cases e
  obtain ⟨m, hc, hm⟩ := lk_chn _ (x :: r) x x r rfl rfl mem lk
  exact ⟨by simp, m, hc, hm⟩
theorem half_fold {ns : List Nt} {h k : Int} {n : Nat} {C : Chs} (B : Best ns h k n C) : ∀ (ys ms : List Nt) (L : Chs), (∀ y ∈ ys, y ∈ ns) → Half ns ms h k n L → Half ns (ms ++ ys) h k n (ys.foldl (stepC C) L)
  | [], ms, L, _, A => by rw [List.append_nil]; exact A
  | y :: ys, ms, L, hy, A => by
    have := half_fold B ys (ms ++ [y]) (stepC C L y) (fun z hz => hy z (by simp [hz])) (half_step B A (hy y (by simp)))
    rw [List.append_assoc] at this
    exact this
theorem long_best {ns : List Nt} {h k : Int} {n : Nat} {C : Chs} (B : Best ns h k n C) : Best ns h k (n + 1) (longC ns C) := half_best (half_fold B ns [] [] (fun _ h => h) (half0 ns h k n))

/-! ### ring_from -/
def spRingFrom (K : PySem.W.Frag) : Sp := fun vs H Q _ => ∃ (t c a st : Addr) (cs : List Int) (ns : List Nt) (h k : Int), vs = [.ref t, .ref st] ∧ RecAt H t c a cs ns ∧ RecOk cs ns ∧ H st = some (.tup [.int h, .int k]) ∧
  (∀ H', Same H H' → (∀ c', RingF ns h k c' → cs.length < c'.length) → Q .non H') ∧ ∀ (p : Addr) (c' : List Nt) (H' : Hp), Same H H' → H p = none → NtsAt H' p c' → RingF ns h k c' → c'.length ≤ cs.length → (∀ c2, RingF ns h k c2 → c'.length ≤ c2.length) → Q (.ref p) H'
theorem ok_ringFrom {f : Addr} {fd : FuncData} (F : Fun K "ring_from" "ring_from" s_ring_from f fd) (F_longer_chains : FnAt P w K mg base 1 "longer_chains" ["record", "chains"] (spLonger K)) (Bt : Blt mg) : FnOk P w K mg base CX0 2 f fd ["record", "start"] (spRingFrom K) := by
  refine F.ok sc_ring_from (fun vs H Q E h => ?_) (fun cdv A outer s H vs Q E hr h => ?_)
  · obtain ⟨t, c, a, st, cs, ns, h, k, rfl, _⟩ := h
    rfl
  · obtain ⟨t, c, a, st, cs, ns, h, k, rfl, R, ok, hst, kN, kR⟩ := h
    have hu := hu_of hr
    have c8 := ok.1.1
    have nl := ok.2.1
    refine ⟨_, (pss_cons (ps_set (i := 2) sc_ring_from.nd rfl (Or.inl rfl) (pe_dispK (pe_ix (ix_tupK (K := K) rfl) (pv 1) pe_int (fun _ _ => rfl)) (pe_tup (pa_cons (pe_ix (ix_tupK (K := K) rfl) (pv 1) pe_int (fun _ _ => rfl)) (pa_cons (pe_lst pa_nil) pa_nil)))))
      (pss_cons (ps_for PassesOwn.never rfl (pi_range1 (by rfl) Bt.b_range (pa_cons (pe_callB (call_len_seqK (K := K) rfl) (by rfl) Bt.b_len bt_len (pa_cons (pe_ix (ix_tupK (K := K) rfl) (pv 0) pe_int (fun _ _ => rfl)) pa_nil)) pa_nil)) (pg_name (i := 3) sc_ring_from.nd rfl (Or.inl rfl))
      (pss_cons (ps_set (i := 2) sc_ring_from.nd rfl (Or.inl rfl) (pe_fn F_longer_chains (hr.mono (by decide)) (by rfl) (pa_cons (pv 0) (pa_cons (pv 2) pa_nil))))
      (pss_cons (ps_set (i := 4) sc_ring_from.nd rfl (Or.inl rfl) (pe_dget1 hu (pv 2) (pe_ix (ix_tupK (K := K) rfl) (pv 1) pe_int (fun _ _ => rfl)) ⟨rfl, rfl, rfl, rfl⟩))
      (pss_one (ps_if (PW.pt (pw_and (pt_cmpR op_notN (pv 4) pe_non (nomark _)) (pw_and1 (pt_cmpR op_le (pe_ix (ix_tupK (K := K) rfl) (pv 4) pe_int (fun _ _ => rfl)) (pe_ix (ix_tupK (K := K) rfl) (pv 1) pe_int (fun _ _ => rfl)) (nomark _))))) (pss_one (ps_ret (pe_ix (ix_tupK (K := K) rfl) (pv 4) pe_int (fun _ _ => rfl)))) pss_nil)))))
      (pss_one (ps_ret pe_non)))), ?_⟩
    intro d hd
    have s1 := same_new (o := HO.dK []) hd
    refine ⟨_, rfl, _, _, _, _, rfl, rfl, SqT.of (s1 _ _ hst), rfl, ?_⟩
    refine ⟨_, rfl, _, _, _, _, rfl, rfl, SqT.of (s1 _ _ hst), rfl, (by show 0 ≤ sizeLine; decide), fun l hl => ?_⟩
    have s2 := same_new (o := HO.lst []) hl
    refine ⟨(by show 2 ≤ sizeLine; decide), fun p hp => ?_⟩
    have s3 := same_new (o := HO.tup [V.int k, V.ref l]) hp
    have s23 := s2.trans s3
    have hd0 : (upd (upd (upd H d (.dK [])) l (.lst [])) p (.tup [V.int k, V.ref l])) d = some (.dK []) := s23 _ _ upd_same
    refine ⟨Sum.inl h, rfl, hd0, ?_⟩
    have kd : Kp d (upd (upd (upd H d (.dK [])) l (.lst [])) p (.tup [V.int k, V.ref l])) (upd (upd (upd (upd H d (.dK [])) l (.lst [])) p (.tup [V.int k, V.ref l])) d (.dK [(Sum.inl h, V.ref p)])) := Kp.set
    have S4 : Same H (upd (upd (upd (upd H d (.dK [])) l (.lst [])) p (.tup [V.int k, V.ref l])) d (.dK [(Sum.inl h, V.ref p)])) := fun b u e => kd _ _ (s23 _ _ (s1 _ _ e)) (ne_of_none e hd)
    have N4 : NtsAt (upd (upd (upd H d (.dK [])) l (.lst [])) p (.tup [V.int k, V.ref l])) l [] := ⟨[], s3 _ _ upd_same, by simp [Dats]⟩
    have E4 : EntR H (upd (upd (upd H d (.dK [])) l (.lst [])) p (.tup [V.int k, V.ref l])) (Sum.inl h, V.ref p) (h, k, []) := ⟨rfl, p, l, rfl, upd_same, N4, s1.free hl⟩
    have CA4 : ChAt H (upd (upd (upd (upd H d (.dK [])) l (.lst [])) p (.tup [V.int k, V.ref l])) d (.dK [(Sum.inl h, V.ref p)])) d [(h, k, [])] := ⟨_, upd_same, E4.kp hd0 kd, True.intro⟩
    generalize (upd (upd (upd (upd H d (.dK [])) l (.lst [])) p (.tup [V.int k, V.ref l])) d (.dK [(Sum.inl h, V.ref p)])) = H4 at S4 CA4 ⊢
    have R4 := R.same S4
    clear kd hd0 s1 s2 s3 s23 N4 E4 hl hp hd
    refine ⟨_, rfl, _, _, _, _, rfl, rfl, SqT.of R4.1, rfl, c, _, rfl, .inl (SqL.of R4.2.1), _, rfl, by rw [List.length_map]; omega, by rw [List.length_map]; omega, ?_⟩
    have lnm : (((cs.map V.int).length : Nat) : Int).toNat = cs.length := by simp
    rw [lnm]
    refine for_range (lo := 0) (n := cs.length) (fun i σ H5 => ∃ (d : Addr) (C : Chs) (x1 x2 : Option V), σ = [some (.ref t), some (.ref st), some (.ref d), x1, x2] ∧ Same H H5 ∧ ChAt H H5 d C ∧ Best ns h k i C ∧ ∀ c', RingF ns h k c' → i < c'.length)
      ⟨d, _, none, none, rfl, S4, CA4, best0 ns h k, fun c' r => List.length_pos_iff.mpr r.1⟩ ?_ ?_
    · rintro i σ H5 hi ⟨d, C, x1, x2, rfl, S5, CA5, B5, no⟩
      refine ⟨_, rfl, _, rfl, t, c, a, d, cs, ns, C, H, rfl, S5, R.same S5, by omega, CA5, fun e he => by rw [(B5.ch e he).2]; omega, fun d' H6 hd' CA6 s6 => ?_⟩
      have S6 := S5.trans s6
      have hst6 := S6 _ _ hst
      obtain ⟨kvs, hd6, cr6⟩ := id CA6
      have B6 := long_best B5
      refine ⟨_, rfl, d', rfl, .inl ⟨_, .inl hd6⟩, _, rfl, _, _, _, _, rfl, rfl, SqT.of hst6, rfl, _, DGet.k (k := Sum.inl h) hd6, ?_⟩
      have go : (∀ r, look3 (longC ns C) h = some r → ¬ r.1 ≤ k) → ∃ (d : Addr) (C : Chs) (x1 x2 : Option V), [some (V.ref t), some (.ref st), some (.ref d'), some (.int (0 + (i : Int))), some ((valV kvs (Sum.inl h)).getD .non)] = [some (.ref t), some (.ref st), some (.ref d), x1, x2] ∧ Same H H6 ∧ ChAt H H6 d C ∧ Best ns h k (i + 1) C ∧ ∀ c', RingF ns h k c' → i + 1 < c'.length := fun nr => by
        refine ⟨d', _, _, _, rfl, S6, CA6, B6, fun c' r => ?_⟩
        have l1 := no c' r
        by_cases e : c'.length = i + 1
        · obtain ⟨ne, m, hc, le⟩ := r
          obtain ⟨q, hq, q1, q2⟩ := B6.le c' h m hc e
          have := look3_of B6.nd hq
          rw [q1] at this
          exact absurd (Int.le_trans q2 le) (nr _ this)
        · omega
      refine ⟨_, rfl, rfl, _, rfl, ?_⟩
      rcases cr6.val h with ⟨e1, e2⟩ | ⟨r, tc, lc, e1, e2, htc, hlc, fl⟩
      · rw [e1] at go ⊢
        refine ite2 (fun q => absurd q (by simp)) (fun _ => ?_)
        exact go fun r z => by rw [e2] at z; cases z
      rw [e1] at go ⊢
      refine ite2 (fun _ => ?_) (fun q => absurd (by simp) q)
      refine ⟨_, rfl, _, _, _, _, rfl, rfl, SqT.of htc, rfl, _, rfl, _, _, _, _, rfl, rfl, SqT.of hst6, rfl, _, _, rfl, rfl, _, rfl, ?_⟩
      by_cases w : r.1 ≤ k
      · rw [decide_eq_true w]
        refine iteT ?_
        obtain ⟨rc, rl⟩ := B6.ch _ (look3_mem e2)
        refine ⟨_, rfl, _, _, _, _, rfl, rfl, SqT.of htc, rfl, ?_⟩
        refine kR lc r.2 H6 S6 fl hlc ⟨fun z => ?_, r.1, rc, w⟩ (by rw [show r.2.length = i + 1 from rl]; omega) fun c2 r2 => by rw [show r.2.length = i + 1 from rl]; exact no c2 r2
        have rl2 : r.2.length = i + 1 := rl
        rw [z] at rl2
        cases rl2
      · rw [decide_eq_false w]
        refine iteF ?_
        exact go fun r' z => by rw [e2] at z; cases z; exact w
    · rintro σ H5 ⟨d, C, x1, x2, rfl, S5, CA5, B5, no⟩
      exact kN H5 S5 no

/-! ### ring -/
def qD (x : Nt) : PyData := .tuple [.tuple [.int x.1, .int x.2.1], .bool true]
def keyN (x : Nt) : List Key := [Sum.inl x.1, Sum.inl x.2.1]
def psK (x : Nt) : List Key × V := (keyN x, V.bl true)
theorem dat_q {H : Hp} {t u : Addr} {x : Nt} (h : H t = some (.tup [.ref u, .bl true])) (hu : H u = some (.tup [.int x.1, .int x.2.1])) : Dat H (.ref t) (qD x) := by
  simp only [qD, Dat]
  exact ⟨t, _, rfl, h, by simp only [Dats, Dat, and_true]; exact ⟨u, _, rfl, hu, by simp only [Dats, Dat, and_self]⟩⟩
theorem dat_q_inv {H : Hp} {v : V} {x : Nt} (h : Dat H v (qD x)) : ∃ t u, v = .ref t ∧ H t = some (.tup [.ref u, .bl true]) ∧ H u = some (.tup [.int x.1, .int x.2.1]) := by
  simp only [qD, Dat] at h
  obtain ⟨t, vs, e, q, d⟩ := h
  match vs, d with
  | [a, b], d =>
    simp only [Dats, Dat, and_true] at d
    obtain ⟨⟨u, ws, rfl, hu, dw⟩, rfl⟩ := d
    match ws, dw with
    | [a', b'], dw =>
      simp only [Dats, Dat, and_true] at dw
      obtain ⟨rfl, rfl⟩ := dw
      exact ⟨t, u, e, q, hu⟩
    | [], dw => simp only [Dats] at dw
    | [_], dw => simp only [Dats, and_false] at dw
    | _ :: _ :: _ :: _, dw => simp only [Dats, and_false] at dw
  | [], d => simp only [Dats] at d
  | [_], d => simp only [Dats, and_false] at d
  | _ :: _ :: _ :: _, d => simp only [Dats, and_false] at d
theorem dats_get {H : Hp} : ∀ {vs : List V} {ds : List PyData} {i : Nat} {v : V} {d : PyData}, Dats H vs ds → vs[i]? = some v → ds[i]? = some d → Dat H v d
  | [], [], _, _, _, _, h, _ => by simp at h
  | _ :: _, _ :: _, 0, _, _, h, h1, h2 => by simp at h1 h2; subst h1; subst h2; simp only [Dats] at h; exact h.1
  | _ :: _, _ :: _, i + 1, _, _, h, h1, h2 => by simp only [Dats] at h; exact dats_get (i := i) h.2 (by simpa using h1) (by simpa using h2)
  | [], _ :: _, _, _, _, h, _, _ => by simp only [Dats] at h
  | _ :: _, [], _, _, _, h, _, _ => by simp only [Dats] at h
theorem pairs_at {H : Hp} : ∀ {ws : List V} {ns : List Nt}, Dats H ws (ns.map qD) → PairsAt H ws (ns.map psK) := fun {ws ns} d => by
  refine ⟨by rw [d.length, List.length_map, List.length_map], fun i v p hv hp => ?_⟩
  rw [List.getElem?_map] at hp
  cases e : ns[i]? with
  | none => rw [e] at hp; cases hp
  | some x =>
    rw [e] at hp
    cases hp
    have := dats_get d hv (show (ns.map qD)[i]? = some (qD x) by rw [List.getElem?_map, e]; rfl)
    obtain ⟨t, u, e1, e2, e3⟩ := dat_q_inv this
    exact ⟨t, u, e1, e2, e3⟩
theorem putK_keys (l : List (List Key × V)) (k : List Key) (v : V) (z : List Key) : z ∈ (putK l k v).map (·.1) ↔ z = k ∨ z ∈ l.map (·.1) := by
  unfold putK
  split
  · rename_i h
    obtain ⟨q, hq, e⟩ := List.any_eq_true.mp h
    have e := of_decide_eq_true e
    have em : (l.map fun kv => if kv.1 = k then (kv.1, v) else kv).map (·.1) = l.map (·.1) := by
      rw [List.map_map]
      refine List.map_congr_left fun y _ => ?_
      show (if y.1 = k then (y.1, v) else y).1 = y.1
      split <;> rfl
    rw [em]
    constructor
    · exact .inr
    · rintro (rfl | h)
      · exact List.mem_map.mpr ⟨q, hq, e⟩
      · exact h
  · rw [List.map_append, List.mem_append]
    simp only [List.map_cons, List.map_nil, List.mem_singleton]
    exact ⟨fun h => h.symm, fun h => h.symm⟩
theorem putP_keys (z : List Key) : ∀ (ps l : List (List Key × V)), z ∈ (putP l ps).map (·.1) ↔ z ∈ l.map (·.1) ∨ z ∈ ps.map (·.1)
  | [], l => by simp [putP]
  | p :: ps, l => by
    show z ∈ (putP (putK l p.1 p.2) ps).map (·.1) ↔ _
    rw [putP_keys z ps (putK l p.1 p.2), putK_keys, List.map_cons, List.mem_cons]
    constructor
    · rintro ((h | h) | h)
      · exact .inr (.inl h)
      · exact .inl h
      · exact .inr (.inr h)
    · rintro (h | h | h)
      · exact .inl (.inr h)
      · exact .inl (.inl h)
      · exact .inr h
theorem start_keys {ns : List Nt} {z : List Key} : z ∈ (putP [] (ns.map psK)).map (·.1) ↔ ∃ x ∈ ns, z = keyN x := by
  rw [putP_keys, List.map_map]
  simp only [List.map_nil, List.not_mem_nil, false_or, List.mem_map, Function.comp]
  exact ⟨fun ⟨x, hx, e⟩ => ⟨x, hx, e.symm⟩, fun ⟨x, hx, e⟩ => ⟨x, hx, e.symm⟩⟩
/-- what is known of the shortest ring, the first starts seen -/
def ShortR (B H : Hp) (cs : List Int) (ns : List Nt) (ks : List (List Key)) (sv : V) : Prop :=
  (sv = .non ∧ ∀ h k, [Sum.inl h, Sum.inl k] ∈ ks → ∀ c', RingF ns h k c' → cs.length < c'.length) ∨
  ∃ p cc, sv = .ref p ∧ B p = none ∧ NtsAt H p cc ∧ Rng ns cc ∧ cc.length ≤ cs.length ∧ ∀ h k, [Sum.inl h, Sum.inl k] ∈ ks → ∀ c', RingF ns h k c' → cc.length ≤ c'.length
def spRing3 (K : PySem.W.Frag) : Sp := fun vs H Q _ => ∃ (t c a : Addr) (cs : List Int) (ns : List Nt), vs = [.ref t] ∧ RecAt H t c a cs ns ∧ RecOk cs ns ∧
  ((∀ ms, ¬ Rng ns ms) → ∀ H', Same H H' → Q .non H') ∧
  (∀ (p : Addr) (cc : List Nt) (H' : Hp), Same H H' → H p = none → NtsAt H' p cc → Rng ns cc → cc.length ≤ cs.length → (∀ ms, Rng ns ms → cc.length ≤ ms.length) → Q (.ref p) H')
theorem ok_ring3 {f : Addr} {fd : FuncData} (F : Fun K "ring" "ring" s_ring f fd) (F_check_notes : FnAt P w K mg base 4 "check_notes" ["record"] (spCheckN K)) (F_ring_from : FnAt P w K mg base 2 "ring_from" ["record", "start"] (spRingFrom K)) (Bt : Blt mg) : FnOk P w K mg base CX0 5 f fd ["record"] (spRing3 K) := by
  refine F.ok sc_ring (fun vs H Q E h => ?_) (fun cdv A outer s H vs Q E hr h => ?_)
  · obtain ⟨t, c, a, cs, ns, rfl, _⟩ := h
    rfl
  · obtain ⟨t, c, a, cs, ns, rfl, R, ok, kN, kR⟩ := h
    have nl0 := ok.2.1
    have hu := hu_of hr
    have hu64 := hr.units
    refine ⟨_, (pss_cons (ps_expr (pe_fn F_check_notes (hr.mono (by decide)) (by rfl) (pa_cons (pv 0) pa_nil)))
      (pss_cons (ps_set (i := 1) sc_ring.nd rfl (Or.inl rfl) pe_non)
      (pss_cons (ps_set (i := 2) sc_ring.nd rfl (Or.inl rfl) (pe_callTy (call_dictPK (K := K) rfl rfl hr.units1) (by rfl) Bt.b_dict bt_dict (pa_cons (pe_comp rfl (N := ["note"]) (own := ["note"]) (caps := []) (CompScope.of (by kernel_rfl)) (pi_listK (K := K) rfl (pe_ix (ix_tupK (K := K) rfl) (pv 0) pe_int (fun _ _ => rfl))) (fun _ _ _ _ => (pg_name (i := 0) (show List.Nodup (["note"] : List Str) by decide +kernel) rfl (Or.inl rfl))) (fun _ _ _ _ => pts_nil) (fun _ _ _ _ => (pe_tup (pa_cons (pe_slice (sl_tupK (K := K) rfl) (pv 0) po_none (po_some pe_int)) (pa_cons pe_bl pa_nil))))) pa_nil)))
      (pss_cons (ps_thawT (ps_for PassesOwn.never rfl (pi_dictT (pv 2)) (pg_name (i := 3) sc_ring.nd rfl (Or.inl rfl))
      (pss_cons (ps_set (i := 4) sc_ring.nd rfl (Or.inl rfl) (pe_fn F_ring_from (hr.mono (by decide)) (by rfl) (pa_cons (pv 0) (pa_cons (pv 3) pa_nil))))
      (pss_one (ps_if (PW.pt (pw_and (pt_cmpR op_notN (pv 4) pe_non (nomark _)) (pw_and1 (PW.pt (pw_or (pt_cmpR op_isN (pv 1) pe_non (nomark _)) (pw_or1 (pt_cmpR op_lt (pe_callB (call_len_seqK (K := K) rfl) (by rfl) Bt.b_len bt_len (pa_cons (pv 4) pa_nil)) (pe_callB (call_len_seqK (K := K) rfl) (by rfl) Bt.b_len bt_len (pa_cons (pv 1) pa_nil)) (nomark _)))))))) (pss_one (ps_set (i := 1) sc_ring.nd rfl (Or.inl rfl) (pv 4))) pss_nil)))))
      (pss_one (ps_ret (pv 1))))))), ?_⟩
    refine ⟨_, rfl, t, c, a, cs, ns, rfl, R, ok, fun H1 s1 => ?_⟩
    have R1 := R.same s1
    obtain ⟨ht1, hc1, nvs, ha1, dn⟩ := id R1
    have nvl : nvs.length = ns.length := by rw [dn.length, List.length_map]
    refine ⟨_, rfl, _, _, _, _, rfl, rfl, SqT.of ht1, rfl, a, rfl, ⟨_, SqL.of ha1⟩, fun D hD => ?_⟩
    refine comp_datL (K := K) (fun i => (ns[i]?).map qD) (fun i d e => ?_) hD (SqL.of ha1) (by omega) (fun i v H2 G F hi s2 kG kF => ?_) (fun H2 ws s2 e2 d2 => ?_)
    · cases ex : ns[i]? with
      | none => rw [ex] at e; cases e
      | some x => rw [ex] at e; cases e; rfl
    · obtain ⟨x, q, ex, rfl, hx⟩ := nts_get dn hi
      have hx2 := s2 _ _ hx
      refine ⟨_, rfl, _, rfl, _, _, rfl, SqT.of hx2, part4a _ rfl, fun p1 hp1 => ?_⟩
      have c1 : cutV (nV x) none (some 2) = [.int x.1, .int x.2.1] := cut4a ..
      rw [c1]
      have u1 := same_new (o := HO.tup [V.int x.1, V.int x.2.1]) hp1
      refine ⟨(by show 2 ≤ sizeLine; decide), fun p2 hp2 => ?_⟩
      have u2 := same_new (o := HO.tup [V.ref p1, V.bl true]) hp2
      exact kF _ (qD x) _ (u1.trans u2) (by rw [ex]; rfl) (dat_q upd_same (u2 _ _ upd_same))
    rw [nvl, fm_some] at d2
    have S2 := s1.trans s2
    refine ⟨D, ws, ns.map psK, rfl, SqL.of e2, pairs_at d2, fun q hq => ?_⟩
    have uq : (upd H2 q (.dT (putP [] (ns.map psK)))) q = some (.dT (putP [] (ns.map psK))) := upd_same
    have s3 := same_new (o := HO.dT (putP [] (ns.map psK))) hq
    have hq0 : H q = none := S2.free hq
    have hkeys : ∀ z, z ∈ (putP [] (ns.map psK)).map (·.1) ↔ ∃ x ∈ ns, z = keyN x := fun z => start_keys
    generalize putP [] (ns.map psK) = kvs at uq s3 hkeys ⊢
    refine ⟨_, rfl, q, _, rfl, uq, fun ob => ?_⟩
    have kq : Kp q (upd H2 q (.dT kvs)) (upd (upd H2 q (.dT kvs)) q (.frz ob (.dT kvs))) := Kp.set
    have kfz : Same H2 (upd (upd H2 q (.dT kvs)) q (.frz ob (.dT kvs))) := fun b u e => kq _ _ (s3 _ _ e) (ne_of_none e hq)
    refine for_dT (fun i σ H5 => ∃ (sv : V) (x1 x2 : Option V), σ = [some (.ref t), some sv, some (.ref q), x1, x2] ∧ Same H2 H5 ∧ H5 q = some (.frz ob (.dT kvs)) ∧ ShortR H H5 cs ns ((kvs.take i).map (·.1)) sv)
      ⟨.non, none, none, rfl, kfz, upd_same, .inl ⟨rfl, fun h k z => (by cases z)⟩⟩ (fun i σ H5 _ ⟨_, _, _, _, _, e, _⟩ => e) ?_ ?_
    · rintro i kk vv b σ H5 hi hb ⟨sv, x1, x2, rfl, s5, hq5, sh⟩
      have tk : (kvs.take (i + 1)).map (·.1) = (kvs.take i).map (·.1) ++ [kk] := by rw [List.take_add_one, hi, List.map_append]; rfl
      obtain ⟨x, hx, rfl⟩ := (hkeys kk).mp (List.mem_map.mpr ⟨(kk, vv), List.mem_of_getElem? hi, rfl⟩)
      have S5 := S2.trans s5
      have key : ∀ {h k : Int}, [Sum.inl h, Sum.inl k] ∈ (kvs.take (i + 1)).map (·.1) → [Sum.inl h, Sum.inl k] ∈ (kvs.take i).map (·.1) ∨ (h = x.1 ∧ k = x.2.1) := fun {h k} z => by
        rw [tk] at z
        rcases List.mem_append.mp z with z | z
        · exact .inl z
        · have : ([Sum.inl h, Sum.inl k] : List Key) = keyN x := by simpa using z
          unfold keyN at this
          injection this with z1 z2
          injection z2 with z2 _
          exact .inr ⟨Sum.inl.inj z1, Sum.inl.inj z2⟩
      dsimp only
      refine seq_cps (fun σ H6 => ∃ fv : V, σ = [some (.ref t), some sv, some (.ref q), some (.ref b), some fv] ∧ Same H5 H6 ∧ ((fv = .non ∧ ∀ c', RingF ns x.1 x.2.1 c' → cs.length < c'.length) ∨ ∃ p cc, fv = .ref p ∧ H p = none ∧ NtsAt H6 p cc ∧ RingF ns x.1 x.2.1 cc ∧ cc.length ≤ cs.length ∧ ∀ c2, RingF ns x.1 x.2.1 c2 → cc.length ≤ c2.length)) (fun D' hD' _ => ?_) ?_
      · exact ⟨_, rfl, _, rfl, t, c, a, b, cs, ns, x.1, x.2.1, rfl, R.same S5, ok, hb, fun H6 s6 no => hD' _ _ ⟨_, rfl, s6, .inl ⟨rfl, no⟩⟩, fun p cc H6 s6 fp N r1 r2 r3 => hD' _ _ ⟨_, rfl, s6, .inr ⟨p, cc, rfl, S5.free fp, N, r1, r2, r3⟩⟩⟩
      rintro σ H6 ⟨fv, rfl, s6, hfv⟩
      have sh6 : ShortR H H6 cs ns ((kvs.take i).map (·.1)) sv := by
        rcases sh with h | ⟨p, cc, e1, e2, e3, e4⟩
        · exact .inl h
        · exact .inr ⟨p, cc, e1, e2, e3.same s6, e4⟩
      have fin : ∀ sv' : V, ShortR H H6 cs ns ((kvs.take (i + 1)).map (·.1)) sv' → ∃ (sv : V) (x1 x2 : Option V), [some (V.ref t), some sv', some (.ref q), some (.ref b), some fv] = [some (.ref t), some sv, some (.ref q), x1, x2] ∧ Same H2 H6 ∧ H6 q = some (.frz ob (.dT kvs)) ∧ ShortR H H6 cs ns ((kvs.take (i + 1)).map (·.1)) sv := fun sv' h => ⟨sv', _, _, rfl, s5.trans s6, s6 _ _ hq5, h⟩
      refine ⟨_, rfl, rfl, _, rfl, ?_⟩
      rcases hfv with ⟨rfl, no⟩ | ⟨p, cc, rfl, fp, N, r1, r2, r3⟩
      · refine ite2 (fun z => absurd z (by simp)) (fun _ => ?_)
        refine fin sv ?_
        rcases sh6 with ⟨e1, e2⟩ | ⟨p, cc, e1, e2, e3, e4, e5, e6⟩
        · refine .inl ⟨e1, fun h k z => ?_⟩
          rcases key z with z | ⟨rfl, rfl⟩
          · exact e2 h k z
          · exact no
        · refine .inr ⟨p, cc, e1, e2, e3, e4, e5, fun h k z => ?_⟩
          rcases key z with z | ⟨rfl, rfl⟩
          · exact e6 h k z
          · intro c' rc
            have := no c' rc
            omega
      refine ite2 (fun _ => ?_) (fun z => absurd (by simp) z)
      have new : (∀ h k, [Sum.inl h, Sum.inl k] ∈ (kvs.take i).map (·.1) → ∀ c', RingF ns h k c' → cc.length ≤ c'.length) → ShortR H H6 cs ns ((kvs.take (i + 1)).map (·.1)) (.ref p) := fun old => by
        refine .inr ⟨p, cc, rfl, fp, N, ringF_rng r1, r2, fun h k z => ?_⟩
        rcases key z with z | ⟨rfl, rfl⟩
        · exact old h k z
        · exact r3
      refine ⟨_, rfl, rfl, _, rfl, ?_⟩
      rcases sh6 with ⟨rfl, e2⟩ | ⟨p0, cc0, rfl, e2, e3, e4, e5, e6⟩
      · refine ite2 (fun _ => ?_) (fun z => absurd (by simp) z)
        exact ⟨_, rfl, fin _ (new fun h k z c' rc => by have := e2 h k z c' rc; omega)⟩
      refine ite2 (fun z => absurd z (by simp)) (fun _ => ?_)
      obtain ⟨v1, hp1, dp1⟩ := id N
      obtain ⟨v2, hp2, dp2⟩ := id e3
      have l1 : v1.length = cc.length := by rw [dp1.length, List.length_map]
      have l2 : v2.length = cc0.length := by rw [dp2.length, List.length_map]
      refine ⟨_, rfl, p, _, rfl, .inl (SqL.of hp1), _, rfl, p0, _, rfl, .inl (SqL.of hp2), _, _, rfl, rfl, _, rfl, ?_⟩
      by_cases w : cc.length < cc0.length
      · rw [decide_eq_true (show ((v1.length : Nat) : Int) < (v2.length : Nat) by omega)]
        refine iteT ?_
        exact ⟨_, rfl, fin _ (new fun h k z c' rc => by have := e6 h k z c' rc; omega)⟩
      · rw [decide_eq_false (show ¬ ((v1.length : Nat) : Int) < (v2.length : Nat) by omega)]
        refine iteF ?_
        refine fin _ (.inr ⟨p0, cc0, rfl, e2, e3, e4, e5, fun h k z => ?_⟩)
        rcases key z with z | ⟨rfl, rfl⟩
        · exact e6 h k z
        · intro c' rc
          have := r3 c' rc
          omega
    · rintro σ H5 ⟨sv, x1, x2, rfl, s5, hq5, sh⟩
      refine ⟨_, ⟨q, _, ob, _, uq, hq5, rfl⟩, ?_⟩
      have kq2 : Kp q H5 (upd H5 q (.dT kvs)) := Kp.set
      have S6 : Same H (upd H5 q (.dT kvs)) := fun b u e => kq2 _ _ (s5 _ _ (S2 _ _ e)) (ne_of_none e hq0)
      rw [List.take_length] at sh
      rcases sh with ⟨rfl, no⟩ | ⟨p, cc, rfl, e2, e3, e4, e5, e6⟩
      · refine ⟨_, rfl, kN (fun ms r => ?_) _ S6⟩
        obtain ⟨c', r1, l1, _⟩ := ring_short ok ms.length ms (Nat.le_refl _) r
        obtain ⟨x, r', rfl, mem, _⟩ := id r1
        have := no x.1 x.2.1 ((hkeys _).mpr ⟨x, mem x (by simp), rfl⟩) _ (rng_ringF r1)
        omega
      · have np : p ≠ q := fun z => by
          obtain ⟨vs, h1, _⟩ := e3
          rw [z, hq5] at h1
          cases h1
        refine ⟨_, rfl, kR p cc _ S6 e2 (e3.kp (fun a xs h => kq2 _ _ h (ne_of h hq5 (fun z => nomatch z))) kq2 np) e4 e5 fun ms r => ?_⟩
        obtain ⟨x, r', rfl, mem, _⟩ := id r
        exact e6 x.1 x.2.1 ((hkeys _).mpr ⟨x, mem x (by simp), rfl⟩) _ (rng_ringF r)

/-! ### records turned about -/
def abN (cs : List Int) (x : Nt) : Nt := (x.2.2.1, gI cs x.2.2.1 - 1 - x.2.2.2, x.1, gI cs x.1 - 1 - x.2.1)
def about (cs : List Int) (ns : List Nt) : List Nt := (ns.map (abN cs)).reverse
def lft (cs ds : List Int) : List Int := (List.range cs.length).map fun i : Nat => gI cs i - gI ds i
theorem lft_len (cs ds : List Int) : (lft cs ds).length = cs.length := by unfold lft; rw [List.length_map, List.length_range]
theorem gI_lft {cs ds : List Int} {h : Int} (h0 : 0 ≤ h) (h1 : h < cs.length) : gI (lft cs ds) h = gI cs h - gI ds h := by
  obtain ⟨m, rfl⟩ := Int.eq_ofNat_of_zero_le h0
  have hm : m < cs.length := by omega
  exact gI_nat (by unfold lft; rw [List.getElem?_map, List.getElem?_range hm]; rfl)
theorem ext_gI {n : Nat} {as bs : List Int} (la : as.length = n) (lb : bs.length = n) (h : ∀ i : Int, 0 ≤ i → i < n → gI as i = gI bs i) : as = bs := by
  refine List.ext_getElem (by omega) fun i h1 h2 => ?_
  have := h (i : Int) (by omega) (by omega)
  rw [gI_nat (c := as[i]) (by simp [h1]), gI_nat (c := bs[i]) (by simp [h2])] at this
  exact this
theorem lft_lft {cs ds : List Int} (l : ds.length = cs.length) : lft cs (lft cs ds) = ds := ext_gI (lft_len _ _) l fun i i0 i1 => by rw [gI_lft i0 i1, gI_lft i0 i1]; omega
theorem lft_ok {cs ds : List Int} (d : DoneOk cs ds) : DoneOk cs (lft cs ds) := ⟨lft_len _ _, fun i i0 i1 => by rw [gI_lft i0 i1]; have := d.2 i i0 i1; omega⟩
theorem ab_ok {cs : List Int} {x : Nt} (n : NtOk cs x) : NtOk cs (abN cs x) := by
  obtain ⟨⟨h0, h1⟩, ⟨k0, k1⟩, ⟨o0, o1⟩, ⟨m0, m1⟩, ne⟩ := n
  exact ⟨⟨o0, o1⟩, ⟨by show 0 ≤ gI cs x.2.2.1 - 1 - x.2.2.2; omega, by show gI cs x.2.2.1 - 1 - x.2.2.2 < gI cs x.2.2.1; omega⟩, ⟨h0, h1⟩, ⟨by show 0 ≤ gI cs x.1 - 1 - x.2.1; omega, by show gI cs x.1 - 1 - x.2.1 < gI cs x.1; omega⟩, fun z => ne z.symm⟩
theorem ab_ab {cs : List Int} (x : Nt) : abN cs (abN cs x) = x := by
  obtain ⟨h, k, o, m⟩ := x
  show (h, gI cs h - 1 - (gI cs h - 1 - k), o, gI cs o - 1 - (gI cs o - 1 - m)) = (h, k, o, m)
  congr 2
  · omega
  · congr 1; omega
theorem mem_about {cs : List Int} {ns : List Nt} {y : Nt} : y ∈ about cs ns ↔ ∃ x ∈ ns, y = abN cs x := by
  unfold about
  rw [List.mem_reverse, List.mem_map]
  exact ⟨fun ⟨x, hx, e⟩ => ⟨x, hx, e.symm⟩, fun ⟨x, hx, e⟩ => ⟨x, hx, e.symm⟩⟩
theorem about_about {cs : List Int} (ns : List Nt) : about cs (about cs ns) = ns := by
  unfold about
  rw [List.map_reverse, List.reverse_reverse, List.map_map]
  have : (abN cs ∘ abN cs) = id := funext fun x => ab_ab x
  rw [this, List.map_id]
theorem about_ok {cs : List Int} {ns : List Nt} (ok : RecOk cs ns) : RecOk cs (about cs ns) := ⟨ok.1, by unfold about; rw [List.length_reverse, List.length_map]; exact ok.2.1, fun y hy => by
  obtain ⟨x, hx, rfl⟩ := mem_about.mp hy
  exact ab_ok (ok.2.2 x hx)⟩
theorem closed_about {cs : List Int} {ns : List Nt} (ok : RecOk cs ns) (ds : List Int) : closed (about cs ns) (lft cs ds) ↔ closed ns ds := by
  constructor
  · intro h x hx lt
    obtain ⟨⟨h0, h1⟩, _, ⟨o0, o1⟩, _, _⟩ := ok.2.2 x hx
    refine Classical.byContradiction fun w => ?_
    have := h (abN cs x) (mem_about.mpr ⟨x, hx, rfl⟩) (by show gI cs x.1 - 1 - x.2.1 < gI (lft cs ds) x.1; rw [gI_lft h0 h1]; omega)
    have this : gI cs x.2.2.1 - 1 - x.2.2.2 < gI (lft cs ds) x.2.2.1 := this
    rw [gI_lft o0 o1] at this
    omega
  · intro h y hy lt
    obtain ⟨x, hx, rfl⟩ := mem_about.mp hy
    obtain ⟨⟨h0, h1⟩, _, ⟨o0, o1⟩, _, _⟩ := ok.2.2 x hx
    have lt : gI cs x.1 - 1 - x.2.1 < gI (lft cs ds) x.1 := lt
    rw [gI_lft h0 h1] at lt
    show gI cs x.2.2.1 - 1 - x.2.2.2 < gI (lft cs ds) x.2.2.1
    rw [gI_lft o0 o1]
    refine Classical.byContradiction fun w => ?_
    have := h x hx (by omega)
    omega
theorem le_lft {cs : List Int} {ds es : List Int} (h : leL cs.length ds es) : leL cs.length (lft cs es) (lft cs ds) := fun i i0 i1 => by
  rw [gI_lft i0 i1, gI_lft i0 i1]
  have := h i i0 i1
  omega
theorem great_least {cs : List Int} {ns : List Nt} (ok : RecOk cs ns) {ds L : List Int} (dl : ds.length = cs.length) (G : IsGreatest cs ns ds L) : IsLeast cs (about cs ns) (lft cs ds) (lft cs L) := by
  refine ⟨lft_ok G.1, le_lft G.2.1, (closed_about ok L).mpr G.2.2.1, fun M ml ge cl => ?_⟩
  have e := lft_lft (cs := cs) (ds := M) ml
  have := G.2.2.2 (lft cs M) (lft_len _ _) (by have := le_lft ge; rwa [lft_lft dl] at this) ((closed_about ok (lft cs M)).mp (by rw [e]; exact cl))
  have := le_lft this
  rwa [e] at this
theorem least_great {cs : List Int} {ns : List Nt} (ok : RecOk cs ns) {ds L : List Int} (dl : ds.length = cs.length) (G : IsLeast cs ns ds L) : IsGreatest cs (about cs ns) (lft cs ds) (lft cs L) := by
  refine ⟨lft_ok G.1, le_lft G.2.1, (closed_about ok L).mpr G.2.2.1, fun M ml ge cl => ?_⟩
  have e := lft_lft (cs := cs) (ds := M) ml
  have := G.2.2.2 (lft cs M) (lft_len _ _) (by have := le_lft ge; rwa [lft_lft dl] at this) ((closed_about ok (lft cs M)).mp (by rw [e]; exact cl))
  have := le_lft this
  rwa [e] at this
def mxL (n : Nat) (as bs : List Int) : List Int := (List.range n).map fun i : Nat => max (gI as i) (gI bs i)
theorem mx_len (n : Nat) (as bs : List Int) : (mxL n as bs).length = n := by unfold mxL; rw [List.length_map, List.length_range]
theorem gI_mx {n : Nat} {as bs : List Int} {h : Int} (h0 : 0 ≤ h) (h1 : h < n) : gI (mxL n as bs) h = max (gI as h) (gI bs h) := by
  obtain ⟨m, rfl⟩ := Int.eq_ofNat_of_zero_le h0
  exact gI_nat (by unfold mxL; rw [List.getElem?_map, List.getElem?_range (by omega)]; rfl)
theorem mx_ok {cs as bs : List Int} (a : DoneOk cs as) (b : DoneOk cs bs) : DoneOk cs (mxL cs.length as bs) := ⟨mx_len _ _ _, fun i i0 i1 => by
  rw [gI_mx i0 i1]
  have := a.2 i i0 i1
  have := b.2 i i0 i1
  omega⟩
theorem least_max {cs : List Int} {ns : List Nt} (ok : RecOk cs ns) {as bs L M : List Int} (A : IsLeast cs ns as L) (B : IsLeast cs ns bs M) : IsLeast cs ns (mxL cs.length as bs) (mxL cs.length L M) := by
  refine ⟨mx_ok A.1 B.1, fun i i0 i1 => ?_, fun x hx lt => ?_, fun N nl ge cl i i0 i1 => ?_⟩
  · rw [gI_mx i0 i1, gI_mx i0 i1]
    have := A.2.1 i i0 i1
    have := B.2.1 i i0 i1
    omega
  · obtain ⟨⟨h0, h1⟩, _, ⟨o0, o1⟩, _, _⟩ := ok.2.2 x hx
    rw [gI_mx o0 o1] at lt
    rw [gI_mx h0 h1]
    by_cases q : x.2.2.2 < gI L x.2.2.1
    · have := A.2.2.1 x hx q; omega
    · have := B.2.2.1 x hx (by omega); omega
  · rw [gI_mx i0 i1]
    have a := A.2.2.2 N nl (fun j j0 j1 => by have := ge j j0 j1; rw [gI_mx j0 j1] at this; omega) cl i i0 i1
    have b := B.2.2.2 N nl (fun j j0 j1 => by have := ge j j0 j1; rw [gI_mx j0 j1] at this; omega) cl i i0 i1
    omega
theorem least_self {cs : List Int} {ns : List Nt} {ds L : List Int} (d : DoneOk cs ds) (A : IsLeast cs ns ds L) : closed ns ds ↔ L = ds := by
  constructor
  · intro h
    exact leL.eq A.1.1 d.1 (A.2.2.2 ds d.1 (leL.refl _ _) h) A.2.1
  · rintro rfl
    exact A.2.2.1
theorem great_self {cs : List Int} {ns : List Nt} {ds L : List Int} (d : DoneOk cs ds) (A : IsGreatest cs ns ds L) : closed ns ds ↔ L = ds := by
  constructor
  · intro h
    exact leL.eq A.1.1 d.1 A.2.1 (A.2.2.2 ds d.1 (leL.refl _ _) h)
  · rintro rfl
    exact A.2.2.1
/-! steps and cuts -/
theorem free_closed {cs : List Int} {ns : List Nt} (ok : RecOk cs ns) {ds : List Int} (d : DoneOk cs ds) (c : closed ns ds) {h : Int} (h0 : 0 ≤ h) (h1 : h < cs.length) (lt : gI ds h < gI cs h) : isFree cs ns ds h = true ↔ closed ns (stp ds h) := by
  rw [free_iff]
  constructor
  · rintro ⟨_, fr⟩ x hx l
    obtain ⟨⟨a0, a1⟩, _, ⟨o0, o1⟩, _, _⟩ := ok.2.2 x hx
    rw [gI_stp d.1 h0 h1 o0] at l
    rw [gI_stp d.1 h0 h1 a0]
    have : x.2.1 < gI ds x.1 := by
      by_cases e : x.2.2.1 = h
      · rw [if_pos e] at l
        by_cases q : x.2.2.2 = gI ds h
        · exact fr x hx e q
        · exact c x hx (by rw [e] at l ⊢; omega)
      · rw [if_neg e] at l
        exact c x hx (by omega)
    split <;> omega
  · intro cl
    refine ⟨by omega, fun x hx e1 e2 => ?_⟩
    obtain ⟨⟨a0, a1⟩, _, ⟨o0, o1⟩, _, ne⟩ := ok.2.2 x hx
    have := cl x hx (by rw [gI_stp d.1 h0 h1 o0, if_pos e1, e1]; omega)
    rw [gI_stp d.1 h0 h1 a0, if_neg (fun z => ne (z.trans e1.symm))] at this
    omega
theorem closed_zs {cs : List Int} {ns : List Nt} (ok : RecOk cs ns) : closed ns (zs cs) := fun x hx l => by
  have := (ok.2.2 x hx).2.2.2.1.1
  rw [gI_zs] at l
  omega
theorem run_closed {cs : List Int} {ns : List Nt} (ok : RecOk cs ns) : ∀ {os ds : List Int}, inR cs os → DoneOk cs ds → closed ns ds → os.foldl stp ds = cs → (runK cs ns os ds = true ↔ ∀ i, i ≤ os.length → closed ns ((os.take i).foldl stp ds))
  | [], ds, _, _, c, _ => ⟨fun _ i _ => by simpa using c, fun _ => rfl⟩
  | h :: os, ds, ir, d, c, e => by
    obtain ⟨h0, h1⟩ := ir h (by simp)
    have ir' : inR cs os := fun z hz => ir z (by simp [hz])
    have cnt := fold_count (cs := cs) (os := h :: os) (ds := ds) ir d.1 h h0 h1
    rw [e, List.count_cons_self] at cnt
    have lt : gI ds h < gI cs h := by omega
    have fc := free_closed ok d c h0 h1 lt
    have d' : DoneOk cs (stp ds h) := ⟨by simp [stp, d.1], fun i i0 i1 => by rw [gI_stp d.1 h0 h1 i0]; have := d.2 i i0 i1; split <;> (try subst_vars) <;> omega⟩
    have e' : os.foldl stp (stp ds h) = cs := e
    constructor
    · intro r i hi
      have r : (if isFree cs ns ds h then runK cs ns os (stp ds h) else false) = true := r
      by_cases fr : isFree cs ns ds h = true
      · rw [if_pos fr] at r
        have c' := fc.mp fr
        cases i with
        | zero => simpa using c
        | succ i => exact (run_closed ok ir' d' c' e').mp r i (by simpa using hi)
      · rw [if_neg fr] at r; cases r
    · intro al
      have c' : closed ns (stp ds h) := by simpa using al 1 (by simp)
      show (if isFree cs ns ds h then runK cs ns os (stp ds h) else false) = true
      rw [if_pos (fc.mpr c')]
      exact (run_closed ok ir' d' c' e').mpr fun i hi => al (i + 1) (by simpa using hi)

/-! ### orders, rings and cuts of a record turned about -/
theorem fold_len {cs : List Int} : ∀ {os ds : List Int}, ds.length = cs.length → (os.foldl stp ds).length = cs.length
  | [], ds, h => h
  | _ :: os, ds, h => fold_len (os := os) (by simp [stp, h])
theorem fold_rev {cs os : List Int} (ir : inR cs os) (e : os.foldl stp (zs cs) = cs) {i : Nat} (hi : i ≤ os.length) : (os.reverse.take i).foldl stp (zs cs) = lft cs ((os.take (os.length - i)).foldl stp (zs cs)) := by
  have zl : (zs cs).length = cs.length := by simp [zs]
  refine ext_gI (fold_len zl) (lft_len _ _) fun h h0 h1 => ?_
  have irR : inR cs (os.reverse.take i) := fun z hz => ir z (List.mem_reverse.mp (List.mem_of_mem_take hz))
  have irT : inR cs (os.take (os.length - i)) := fun z hz => ir z (List.mem_of_mem_take hz)
  rw [fold_count irR zl h h0 h1, gI_lft h0 h1, fold_count irT zl h h0 h1, gI_zs]
  have tot := fold_count ir zl h h0 h1
  rw [e, gI_zs] at tot
  have c1 : (os.reverse.take i).count h = (os.drop (os.length - i)).count h := by
    rw [List.take_reverse, List.count_reverse]
  have c2 : os.count h = (os.take (os.length - i)).count h + (os.drop (os.length - i)).count h := by
    rw [← List.count_append, List.take_append_drop]
  omega
theorem fold_revE {cs os : List Int} (ir : inR cs os) (e : os.foldl stp (zs cs) = cs) : os.reverse.foldl stp (zs cs) = cs := by
  have zl : (zs cs).length = cs.length := by simp [zs]
  refine ext_gI (fold_len zl) rfl fun h h0 h1 => ?_
  have irR : inR cs os.reverse := fun z hz => ir z (List.mem_reverse.mp hz)
  rw [fold_count irR zl h h0 h1, gI_zs, List.count_reverse]
  have tot := fold_count ir zl h h0 h1
  rw [e, gI_zs] at tot
  omega
theorem inR_rev {cs os : List Int} (ir : inR cs os) : inR cs os.reverse := fun z hz => ir z (List.mem_reverse.mp hz)
theorem run_about {cs os : List Int} {ns : List Nt} (ok : RecOk cs ns) (ir : inR cs os) (e : os.foldl stp (zs cs) = cs) : runK cs (about cs ns) os.reverse (zs cs) = true ↔ runK cs ns os (zs cs) = true := by
  have ok' := about_ok ok
  have zo := zs_ok ok.1
  rw [run_closed ok' (inR_rev ir) zo (closed_zs ok') (fold_revE ir e), run_closed ok ir zo (closed_zs ok) e]
  constructor
  · intro h i hi
    have := h (os.length - i) (by rw [List.length_reverse]; omega)
    rw [fold_rev ir e (by omega), closed_about ok, show os.length - (os.length - i) = i by omega] at this
    exact this
  · intro h i hi
    rw [List.length_reverse] at hi
    rw [fold_rev ir e hi, closed_about ok]
    exact h _ (by omega)
theorem run_aboutB {cs os : List Int} {ns : List Nt} (ok : RecOk cs ns) (ir : inR cs os) (e : os.foldl stp (zs cs) = cs) : runK cs (about cs ns) os.reverse (zs cs) = runK cs ns os (zs cs) := by
  rw [Bool.eq_iff_iff]
  exact run_about ok ir e
/-! all orders, in a list -/
def runsW (cs : List Int) (ns : List Nt) : Nat → List Int → List (List Int)
  | 0, ds => if ds = cs then [[]] else []
  | n + 1, ds => (freeH cs ns ds).flatMap fun h => (runsW cs ns n (stp ds h)).map (h :: ·)
theorem runs_len (cs : List Int) (ns : List Nt) : ∀ (n : Nat) (ds : List Int), (runsW cs ns n ds).length = cntW cs ns n ds
  | 0, ds => by
    show (if ds = cs then [[]] else []).length = if ds = cs then 1 else 0
    split <;> rfl
  | n + 1, ds => by
    show ((freeH cs ns ds).flatMap fun h => (runsW cs ns n (stp ds h)).map (h :: ·)).length = ((freeH cs ns ds).map fun h => cntW cs ns n (stp ds h)).sum
    rw [List.length_flatMap]
    congr 1
    refine List.map_congr_left fun h _ => ?_
    rw [List.length_map, runs_len cs ns n]
theorem runs_mem {cs : List Int} {ns : List Nt} : ∀ {n : Nat} {ds os : List Int}, os ∈ runsW cs ns n ds ↔ os.length = n ∧ inR cs os ∧ runK cs ns os ds = true ∧ os.foldl stp ds = cs
  | 0, ds, os => by
    show os ∈ (if ds = cs then [[]] else []) ↔ _
    constructor
    · intro h
      split at h
      · have : os = [] := by simpa using h
        subst this
        exact ⟨rfl, fun z hz => (by cases hz), rfl, by assumption⟩
      · cases h
    · rintro ⟨l, _, _, e⟩
      have : os = [] := List.length_eq_zero_iff.mp l
      subst this
      rw [if_pos (show ds = cs from e)]
      simp
  | n + 1, ds, os => by
    show os ∈ ((freeH cs ns ds).flatMap fun h => (runsW cs ns n (stp ds h)).map (h :: ·)) ↔ _
    rw [List.mem_flatMap]
    constructor
    · rintro ⟨h, hf, hm⟩
      obtain ⟨os', ho, rfl⟩ := List.mem_map.mp hm
      obtain ⟨l, ir, r, e⟩ := runs_mem.mp ho
      obtain ⟨h0, h1, fr⟩ := mem_freeH.mp hf
      refine ⟨by simp [l], fun z hz => ?_, ?_, e⟩
      · rcases List.mem_cons.mp hz with rfl | hz
        · exact ⟨h0, h1⟩
        · exact ir z hz
      · show (if isFree cs ns ds h then runK cs ns os' (stp ds h) else false) = true
        rw [if_pos fr]
        exact r
    · rintro ⟨l, ir, r, e⟩
      cases os with
      | nil => cases l
      | cons h os =>
        have r : (if isFree cs ns ds h then runK cs ns os (stp ds h) else false) = true := r
        obtain ⟨h0, h1⟩ := ir h (by simp)
        by_cases fr : isFree cs ns ds h = true
        · rw [if_pos fr] at r
          exact ⟨h, mem_freeH.mpr ⟨h0, h1, fr⟩, List.mem_map.mpr ⟨os, runs_mem.mpr ⟨by simpa using l, fun z hz => ir z (by simp [hz]), r, e⟩, rfl⟩⟩
        · rw [if_neg fr] at r; cases r
theorem freeH_nd (cs : List Int) (ns : List Nt) (ds : List Int) : (freeH cs ns ds).Nodup := by
  unfold freeH
  refine List.Pairwise.filterMap _ (fun a a' ne b hb b' hb' => ?_) List.nodup_range
  split at hb
  · split at hb'
    · cases hb
      cases hb'
      intro z
      exact ne (by omega)
    · cases hb'
  · cases hb
theorem runs_nd (cs : List Int) (ns : List Nt) : ∀ (n : Nat) (ds : List Int), (runsW cs ns n ds).Nodup
  | 0, ds => by
    show (if ds = cs then [[]] else []).Nodup
    split <;> simp
  | n + 1, ds => by
    show ((freeH cs ns ds).flatMap fun h => (runsW cs ns n (stp ds h)).map (h :: ·)).Nodup
    refine List.pairwise_flatMap.mpr ⟨fun h _ => ?_, ?_⟩
    · exact List.pairwise_map.mpr (List.Pairwise.imp (fun {a b} ne z => ne (List.cons.inj z).2) (runs_nd cs ns n (stp ds h)))
    · refine List.Pairwise.imp (fun {a b} ne => ?_) (freeH_nd cs ns ds)
      intro x hx y hy z
      obtain ⟨os, _, rfl⟩ := List.mem_map.mp hx
      obtain ⟨os', _, rfl⟩ := List.mem_map.mp hy
      exact ne (List.cons.inj z).1
theorem sub_len {α : Type} [DecidableEq α] : ∀ {l m : List α}, l.Nodup → (∀ x ∈ l, x ∈ m) → l.length ≤ m.length
  | [], _, _, _ => Nat.zero_le _
  | x :: l, m, nd, h => by
    rw [List.nodup_cons] at nd
    have hx := h x (by simp)
    have := sub_len (l := l) (m := m.erase x) nd.2 fun y hy => by
      have ne : y ≠ x := fun z => nd.1 (z ▸ hy)
      exact (List.mem_erase_of_ne ne).mpr (h y (by simp [hy]))
    rw [List.length_erase_of_mem hx] at this
    have : 0 < m.length := List.length_pos_of_mem hx
    rw [List.length_cons]
    omega
theorem map_sub_len {α β : Type} [DecidableEq β] {f : α → β} {l : List α} {m : List β} (nd : l.Nodup) (inj : ∀ x ∈ l, ∀ y ∈ l, f x = f y → x = y) (h : ∀ x ∈ l, f x ∈ m) : l.length ≤ m.length := by
  rw [← List.length_map (f := f)]
  refine sub_len (List.pairwise_map.mpr (List.Pairwise.imp_of_mem (fun {a b} ha hb ne z => ne (inj a ha b hb z)) nd)) fun y hy => ?_
  obtain ⟨x, hx, rfl⟩ := List.mem_map.mp hy
  exact h x hx
theorem cnt_about_le {cs : List Int} {ns : List Nt} (ok : RecOk cs ns) (n : Nat) : cntW cs ns n (zs cs) ≤ cntW cs (about cs ns) n (zs cs) := by
  rw [← runs_len, ← runs_len]
  refine map_sub_len (f := List.reverse) (runs_nd cs ns n _) (fun x _ y _ e => by simpa using e) fun os ho => ?_
  obtain ⟨l, ir, r, e⟩ := runs_mem.mp ho
  exact runs_mem.mpr ⟨by rw [List.length_reverse]; exact l, inR_rev ir, (run_about ok ir e).mpr r, fold_revE ir e⟩
theorem cnt_about {cs : List Int} {ns : List Nt} (ok : RecOk cs ns) (n : Nat) : cntW cs (about cs ns) n (zs cs) = cntW cs ns n (zs cs) := by
  have h1 := cnt_about_le ok n
  have h2 := cnt_about_le (about_ok ok) n
  rw [about_about] at h2
  omega
/-! rings -/
theorem lds_ab {cs : List Int} {x y : Nt} (h : lds x y) : lds (abN cs y) (abN cs x) := by
  refine ⟨h.1.symm, ?_⟩
  show gI cs y.1 - 1 - y.2.1 ≤ gI cs x.2.2.1 - 1 - x.2.2.2
  rw [h.1]
  have := h.2
  omega
theorem lk_ab {cs : List Int} : ∀ (l : List Nt), Lk l → Lk (l.map (abN cs)).reverse
  | [], _ => True.intro
  | [_], _ => True.intro
  | x :: y :: r, h => by
    have ih := lk_ab (cs := cs) (y :: r) h.2
    rw [List.map_cons, List.reverse_cons] at ih
    rw [List.map_cons, List.map_cons, List.reverse_cons, List.reverse_cons, List.append_assoc]
    exact (lk_app _).mpr ⟨ih, lds_ab h.1, True.intro⟩
theorem rng_about {cs : List Int} {ns c : List Nt} (R : Rng ns c) : ∃ c', Rng (about cs ns) c' ∧ c'.length = c.length := by
  obtain ⟨x, r, rfl, mem, lk⟩ := R
  refine ⟨abN cs x :: (r.map (abN cs)).reverse, ⟨_, _, rfl, fun y hy => ?_, ?_⟩, by simp⟩
  · rcases List.mem_cons.mp hy with rfl | hy
    · exact mem_about.mpr ⟨x, mem x (by simp), rfl⟩
    · rw [List.mem_reverse] at hy
      obtain ⟨z, hz, rfl⟩ := List.mem_map.mp hy
      exact mem_about.mpr ⟨z, mem z (by simp [hz]), rfl⟩
  · have := lk_ab (cs := cs) _ lk
    simpa using this
/-! cuts that are come to, where there is an order -/
theorem rch_closed {cs : List Int} {ns : List Nt} (ok : RecOk cs ns) {ds : List Int} (r : Rch cs ns ds) : closed ns ds := by
  induction r with
  | zero => exact closed_zs ok
  | @step ds h r hf ih =>
    obtain ⟨h0, h1, fr⟩ := mem_freeH.mp hf
    exact (free_closed ok (r.ok ok.1) ih h0 h1 (isFree_lt (r.ok ok.1) h0 h1 fr)).mp fr
def mnL (n : Nat) (as bs : List Int) : List Int := (List.range n).map fun i : Nat => min (gI as i) (gI bs i)
theorem mn_len (n : Nat) (as bs : List Int) : (mnL n as bs).length = n := by unfold mnL; rw [List.length_map, List.length_range]
theorem gI_mn {n : Nat} {as bs : List Int} {h : Int} (h0 : 0 ≤ h) (h1 : h < n) : gI (mnL n as bs) h = min (gI as h) (gI bs h) := by
  obtain ⟨m, rfl⟩ := Int.eq_ofNat_of_zero_le h0
  exact gI_nat (by unfold mnL; rw [List.getElem?_map, List.getElem?_range (by omega)]; rfl)
theorem closed_rch {cs : List Int} {ns : List Nt} (ok : RecOk cs ns) {os : List Int} (ir : inR cs os) (r : runK cs ns os (zs cs) = true) (e : os.foldl stp (zs cs) = cs) {ds : List Int} (d : DoneOk cs ds) (c : closed ns ds) : Rch cs ns ds := by
  have zo := zs_ok ok.1
  have al := (run_closed ok ir zo (closed_zs ok) e).mp r
  have key : ∀ i, i ≤ os.length → Rch cs ns (mnL cs.length ds ((os.take i).foldl stp (zs cs))) := fun i => by
    induction i with
    | zero =>
      intro _
      have : mnL cs.length ds (([] : List Int).foldl stp (zs cs)) = zs cs := ext_gI (mn_len _ _ _) zo.1 fun h h0 h1 => by
        rw [gI_mn h0 h1]
        show min (gI ds h) (gI (zs cs) h) = _
        have := (d.2 h h0 h1).1
        rw [gI_zs]; omega
      rw [List.take_zero, this]
      exact .zero
    | succ i ih =>
      intro hi
      have ih := ih (by omega)
      obtain ⟨h, eh⟩ : ∃ h, os[i]? = some h := ⟨os[i], by simp [show i < os.length by omega]⟩
      obtain ⟨h0, h1⟩ := ir h (List.mem_of_getElem? eh)
      have tk : os.take (i + 1) = os.take i ++ [h] := by rw [List.take_add_one, eh]; rfl
      have pl : ((os.take i).foldl stp (zs cs)).length = cs.length := fold_len zo.1
      have cl := al (i + 1) (by omega)
      rw [tk, List.foldl_append] at cl ⊢
      show Rch cs ns (mnL cs.length ds (stp ((os.take i).foldl stp (zs cs)) h))
      generalize (os.take i).foldl stp (zs cs) = p at ih pl cl ⊢
      have cl : closed ns (stp p h) := cl
      by_cases q : gI p h < gI ds h
      · -- a step
        have eq : mnL cs.length ds (stp p h) = stp (mnL cs.length ds p) h := ext_gI (mn_len _ _ _) (by simp [stp, mn_len]) fun g g0 g1 => by
          rw [gI_mn g0 g1, gI_stp pl h0 h1 g0, gI_stp (cs := cs) (mn_len _ _ _) h0 h1 g0, gI_mn g0 g1]
          split
          · rename_i z; subst z; omega
          · omega
        rw [eq]
        have dm := ih.ok ok.1
        have cm := rch_closed ok ih
        have lt : gI (mnL cs.length ds p) h < gI cs h := by
          rw [gI_mn h0 h1]
          have := (d.2 h h0 h1).2
          omega
        refine .step ih (mem_freeH.mpr ⟨h0, h1, (free_closed ok dm cm h0 h1 lt).mpr ?_⟩)
        rw [← eq]
        intro x hx l
        obtain ⟨⟨a0, a1⟩, _, ⟨o0, o1⟩, _, _⟩ := ok.2.2 x hx
        rw [gI_mn o0 o1] at l
        rw [gI_mn a0 a1]
        have := c x hx (by omega)
        have := cl x hx (by omega)
        omega
      · have eq : mnL cs.length ds (stp p h) = mnL cs.length ds p := ext_gI (mn_len _ _ _) (mn_len _ _ _) fun g g0 g1 => by
          rw [gI_mn g0 g1, gI_stp pl h0 h1 g0, gI_mn g0 g1]
          split
          · rename_i z; subst z; omega
          · omega
        rw [eq]
        exact ih
  have := key os.length (Nat.le_refl _)
  rw [List.take_length, e] at this
  have eq : mnL cs.length ds cs = ds := ext_gI (mn_len _ _ _) d.1 fun h h0 h1 => by
    rw [gI_mn h0 h1]
    have := (d.2 h h0 h1).2
    omega
  rwa [eq] at this
theorem rch_about {cs : List Int} {ns : List Nt} (ok : RecOk cs ns) {os : List Int} (ir : inR cs os) (r : runK cs ns os (zs cs) = true) (e : os.foldl stp (zs cs) = cs) {ks ls : List (List Int)} (n1 : ks.Nodup) (h1 : ∀ ds, ds ∈ ks ↔ Rch cs ns ds) (n2 : ls.Nodup) (h2 : ∀ ds, ds ∈ ls ↔ Rch cs (about cs ns) ds) : ks.length = ls.length := by
  have ok' := about_ok ok
  have r' := (run_about ok ir e).mpr r
  have inj : ∀ {ms : List Nt}, RecOk cs ms → ∀ x, Rch cs ms x → ∀ y, Rch cs ms y → lft cs x = lft cs y → x = y := fun om x rx y ry z => by
    have := congrArg (lft cs) z
    rwa [lft_lft (rx.ok om.1).1, lft_lft (ry.ok om.1).1] at this
  refine Nat.le_antisymm ?_ ?_
  · refine map_sub_len (f := lft cs) n1 (fun x hx y hy z => inj ok x ((h1 x).mp hx) y ((h1 y).mp hy) z) fun x hx => ?_
    have rx := (h1 x).mp hx
    exact (h2 _).mpr (closed_rch ok' (inR_rev ir) r' (fold_revE ir e) (lft_ok (rx.ok ok.1)) ((closed_about ok x).mpr (rch_closed ok rx)))
  · refine map_sub_len (f := lft cs) n2 (fun x hx y hy z => inj ok' x ((h2 x).mp hx) y ((h2 y).mp hy) z) fun x hx => ?_
    have rx := (h2 x).mp hx
    have l := (rx.ok ok.1).1
    have cl := rch_closed ok' rx
    rw [← lft_lft (cs := cs) l, closed_about ok] at cl
    exact (h1 _).mpr (closed_rch ok ir r e (lft_ok (rx.ok ok.1)) cl)

/-! ### a record turned about, and what is left -/
theorem comp_nts {a D : Addr} {tc : TT} {te : TE} {Q : VK} {rest : St} {H1 : Hp} {ns : List Nt} {vs : List V} (f : Nt → PyData) (hf : ∀ x, imm (f x) = true) (hD : H1 D = none) (ha : H1 a = some (.lst vs)) (dv : Dats H1 vs (ns.map nD)) (hx : ns.length ≤ 100000)
    (hs : ∀ x H (G : Hp → Prop) (F : VK), x ∈ ns → Same H1 H → (∀ y H', Same H H' → Dat H' y (f x) → F y H') → tc (some (.int x.1) :: some (.int x.2.1) :: some (.int x.2.2.1) :: some (.int x.2.2.2) :: rest) H fun b H3 => if b = true then te (some (.int x.1) :: some (.int x.2.1) :: some (.int x.2.2.1) :: some (.int x.2.2.2) :: rest) H3 F else G H3)
    (hd : ∀ H ws, Same H1 H → H D = some (.lst ws) → Dats H ws (ns.map f) → Q (.ref D) H) : CompW (Itl K a) (gTup K 4 (gCons (gName 0) (gCons (gName 1) (gCons (gName 2) (gCons (gName 3) gNil))))) tc te Q D (none :: none :: none :: none :: rest) H1 := by
  have vl : vs.length = ns.length := by rw [dv.length, List.length_map]
  refine comp_list (K := K) (xs := vs) (fun i σ H => (∃ u1 u2 u3 u4, σ = u1 :: u2 :: u3 :: u4 :: rest) ∧ Same H1 H ∧ ∃ ws, H D = some (.lst ws) ∧ Dats H ws ((ns.take i).map f)) ⟨⟨none, none, none, none, rfl⟩, same_new hD, [], upd_same, by simp [Dats]⟩ (fun i σ H _ ⟨_, sm, _⟩ => SqL.of (sm _ _ ha)) ?_ (fun σ H ⟨_, sm, ws, e, d⟩ => hd H ws sm e (by rw [vl, List.take_length] at d; exact d))
  rintro i v σ H hi ⟨⟨u1, u2, u3, u4, rfl⟩, sm, ws, e, d⟩
  obtain ⟨x, w, ex, rfl, hx⟩ := nts_get dv hi
  have il : i < vs.length := (List.getElem?_eq_some_iff.mp hi).1
  refine ⟨w, _, rfl, SqT.of (sm _ _ hx), rfl, _, _, rfl, _, _, rfl, _, _, rfl, _, _, rfl, rfl, ?_⟩
  have tk : ns.take (i + 1) = ns.take i ++ [x] := by rw [List.take_add_one, ex]; rfl
  refine hs x H _ _ (List.mem_of_getElem? ex) sm fun y H4 s4 dy => ?_
  have hl : ws.length ≤ i := by rw [d.length, List.length_map, List.length_take]; omega
  have kp : Kp D H4 (upd H4 D (.lst (ws ++ [y]))) := Kp.set
  have tp := kp.tups (s4 _ _ e)
  refine ⟨ws, s4 _ _ e, by rw [sizeLine_eq]; omega, ⟨_, _, _, _, rfl⟩, (sm.trans s4).newly hD, ws ++ [y], upd_same, ?_⟩
  rw [tk, List.map_append]
  exact dats_snoc (Dats.keep (fun a xs h => tp _ _ (s4.tups _ _ h)) _ (imms_map _ hf _) d) (Dat.keep tp _ (hf x) dy)
theorem dats_rev {H : Hp} {vs : List V} {ds : List PyData} (h : Dats H vs ds) : Dats H vs.reverse ds.reverse := by
  induction vs generalizing ds with
  | nil =>
    cases ds with
    | nil => exact h
    | cons d ds => exact absurd h (by simp [Dats])
  | cons v vs ih =>
    cases ds with
    | nil => exact absurd h (by simp [Dats])
    | cons d ds =>
      simp only [Dats] at h
      rw [List.reverse_cons, List.reverse_cons]
      exact dats_snoc (ih h.2) h.1
def spAbout (K : PySem.W.Frag) : Sp := fun vs H Q _ => ∃ (t c a : Addr) (cs : List Int) (ns : List Nt), vs = [.ref t] ∧ RecAt H t c a cs ns ∧ RecOk cs ns ∧ ∀ (t' c' a' : Addr) (H' : Hp), H t' = none → H c' = none → H a' = none → RecAt H' t' c' a' cs (about cs ns) → Same H H' → Q (.ref t') H'
theorem ok_about {f : Addr} {fd : FuncData} (F : Fun K "_law_about" "_law_about" s_Labout f fd) (Bt : Blt mg) : FnOk P w K mg base CX0 1 f fd ["record"] (spAbout K) := by
  refine F.ok sc_Labout (fun vs H Q E h => ?_) (fun cdv A outer s H vs Q E hr h => ?_)
  · obtain ⟨t, c, a, cs, ns, rfl, _⟩ := h
    rfl
  · obtain ⟨t, c, a, cs, ns, rfl, ⟨ht, hc, hN⟩, ok, k⟩ := h
    have hu64 := hr.units
    obtain ⟨vs, ha, dv⟩ := id hN
    have nl := ok.2.1
    refine ⟨_, (pss_cons (ps_asg (pv 0) (pg_tupK (K := K) (n := 2) rfl rfl (pgs_cons (pg_name (i := 1) sc_Labout.nd rfl (Or.inr rfl)) (pgs_cons (pg_name (i := 2) sc_Labout.nd rfl (Or.inl rfl)) pgs_nil))))
      (pss_cons (ps_setC (i := 3) rfl sc_Labout.nd rfl (Or.inl rfl) (N := ["h", "k", "o", "m", "counts"]) (own := ["h", "k", "o", "m"]) (caps := [1]) (CompScope.of (by kernel_rfl)) (pi_listK (K := K) rfl (pv 2)) (fun _ _ _ _ => (pg_tupK (K := K) (n := 4) rfl rfl (pgs_cons (pg_name (i := 0) (show List.Nodup (["h", "k", "o", "m", "counts"] : List Str) by decide +kernel) rfl (Or.inl rfl)) (pgs_cons (pg_name (i := 1) (show List.Nodup (["h", "k", "o", "m", "counts"] : List Str) by decide +kernel) rfl (Or.inl rfl)) (pgs_cons (pg_name (i := 2) (show List.Nodup (["h", "k", "o", "m", "counts"] : List Str) by decide +kernel) rfl (Or.inl rfl)) (pgs_cons (pg_name (i := 3) (show List.Nodup (["h", "k", "o", "m", "counts"] : List Str) by decide +kernel) rfl (Or.inl rfl)) pgs_nil)))))) (fun _ _ _ _ => pts_nil) (fun _ _ _ _ => (pe_tup (pa_cons (pv 2) (pa_cons (pe_op op_sub (pe_op op_sub (pe_ix (ix_listK (K := K) rfl) (pv 4) (pv 2) (fun _ _ => rfl)) pe_int) (pv 3)) (pa_cons (pv 0) (pa_cons (pe_op op_sub (pe_op op_sub (pe_ix (ix_listK (K := K) rfl) (pv 4) (pv 0) (fun _ _ => rfl)) pe_int) (pv 1)) pa_nil)))))))
      (pss_one (ps_ret (pe_tup (pa_cons (pe_callTy (call_list_ofK (K := K) rfl) (by rfl) Bt.b_list bt_list (pa_cons (pv 1) pa_nil)) (pa_cons (pe_revSl (K := K) rfl (pv 3) (pe_un un_neg pe_int)) pa_nil))))))), ?_⟩
    refine ⟨_, rfl, t, _, rfl, SqT.of ht, rfl, _, _, rfl, _, _, rfl, rfl, ?_⟩
    refine ⟨_, rfl, a, rfl, ⟨_, SqL.of ha⟩, fun D hD => ?_⟩
    refine comp_nts (K := K) (fun x => nD (abN cs x)) (fun x => imm_nD _) hD ha dv (by omega) (fun x H2 G F hx s2 kF => ?_) (fun H2 ws s2 e2 d2 => ?_)
    · obtain ⟨⟨h0, h1⟩, _, ⟨o0, o1⟩, _, _⟩ := ok.2.2 x hx
      have hc2 := s2 _ _ hc
      refine ⟨_, rfl, _, rfl, _, rfl, _, _, _, _, rfl, rfl, SqL.of hc2, atI_gI o0 o1, _, _, rfl, rfl, _, rfl, _, _, rfl, rfl, _, rfl, _, rfl, _, rfl, _, _, _, _, rfl, rfl, SqL.of hc2, atI_gI h0 h1, _, _, rfl, rfl, _, rfl, _, _, rfl, rfl, (by show 4 ≤ sizeLine; decide), fun p hp => ?_⟩
      exact kF _ _ (same_new hp) (dat_nt (x := abN cs x) upd_same)
    refine ⟨_, rfl, c, _, rfl, .inl (SqL.of (s2 _ _ hc)), fun c' hc' => ?_⟩
    have s3 := same_new (o := HO.lst (cs.map V.int)) hc'
    refine ⟨_, rfl, _, rfl, D, ws, rfl, rfl, SqL.of (s3 _ _ e2), fun a' ha' => ?_⟩
    have s4 := same_new (o := HO.lst ws.reverse) ha'
    refine ⟨(by show 2 ≤ sizeLine; decide), fun t' ht' => ?_⟩
    have s5 := same_new (o := HO.tup [V.ref c', V.ref a']) ht'
    have sA := (s3.trans s4).trans s5
    refine k t' c' a' _ (((s2.trans s3).trans s4).free ht') (s2.free hc') ((s2.trans s3).free ha') ⟨upd_same, s5 _ _ (s4 _ _ upd_same), ⟨ws.reverse, s5 _ _ upd_same, ?_⟩⟩ (s2.trans sA)
    have : (about cs ns).map nD = (ns.map fun x => nD (abN cs x)).reverse := by
      unfold about
      rw [List.map_reverse, List.map_map]
      rfl
    rw [this]
    refine dats_rev (Dats.keep sA.tups _ ?_ d2)
    exact imms_map (fun x => nD (abN cs x)) (fun x => imm_nD _) ns
theorem fm_someR {β : Type} (n : Nat) (g : Nat → β) : (List.range n).filterMap (fun i => some (g i)) = (List.range n).map g := by rw [← List.filterMap_eq_map]; rfl
def spLeft (K : PySem.W.Frag) : Sp := fun vs H Q _ => ∃ (t c a d : Addr) (cs ds : List Int) (ns : List Nt), vs = [.ref t, .ref d] ∧ RecAt H t c a cs ns ∧ CsOk cs ∧ H d = some (.lst (ds.map V.int)) ∧ ds.length = cs.length ∧ ∀ (p : Addr) (H' : Hp), H p = none → H' p = some (.lst ((lft cs ds).map V.int)) → Same H H' → Q (.ref p) H'
theorem ok_left {f : Addr} {fd : FuncData} (F : Fun K "_law_left" "_law_left" s_Lleft f fd) (Bt : Blt mg) : FnOk P w K mg base CX0 1 f fd ["record", "some"] (spLeft K) := by
  refine F.ok sc_Lleft (fun vs H Q E h => ?_) (fun cdv A outer s H vs Q E hr h => ?_)
  · obtain ⟨t, c, a, d, cs, ds, ns, rfl, _⟩ := h
    rfl
  · obtain ⟨t, c, a, d, cs, ds, ns, rfl, R, ok, hd, dl, k⟩ := h
    have hu64 := hr.units
    have c8 := ok.1
    refine ⟨_, (pss_one (ps_ret (pe_comp rfl (N := ["hand", "some", "record"]) (own := ["hand"]) (caps := [1, 0]) (CompScope.of (by kernel_rfl)) (pi_range1 (by rfl) Bt.b_range (pa_cons (pe_callB (call_len_seqK (K := K) rfl) (by rfl) Bt.b_len bt_len (pa_cons (pv 1) pa_nil)) pa_nil)) (fun _ _ _ _ => (pg_name (i := 0) (show List.Nodup (["hand", "some", "record"] : List Str) by decide +kernel) rfl (Or.inl rfl))) (fun _ _ _ _ => pts_nil) (fun _ _ _ _ => (pe_op op_sub (pe_ix (ix_listK (K := K) rfl) (pe_ix (ix_tupK (K := K) rfl) (pv 2) pe_int (fun _ _ => rfl)) (pv 0) (fun _ _ => rfl)) (pe_ix (ix_listK (K := K) rfl) (pv 1) (pv 0) (fun _ _ => rfl))))))), ?_⟩
    refine ⟨_, rfl, d, _, rfl, .inl (SqL.of hd), _, rfl, by rw [List.length_map]; omega, by rw [List.length_map]; omega, fun D hD => ?_⟩
    have lnm : (((ds.map V.int).length : Nat) : Int).toNat = cs.length := by simp [dl]
    rw [lnm]
    refine comp_valR (n := cs.length) (fun i => some (.int (gI cs (i : Int) - gI ds (i : Int)))) hD (by omega) (fun i H1 G F hi s1 kG kF => ?_) (fun H1 s1 e1 => ?_)
    · have ei : (0 : Int) + (i : Int) = (i : Int) := by omega
      rw [ei]
      exact ⟨_, rfl, _, _, _, _, rfl, rfl, SqT.of (s1 _ _ R.1), rfl, _, rfl, _, _, _, _, rfl, rfl, SqL.of (s1 _ _ R.2.1), atI_gI (by omega) (by omega), _, rfl, _, rfl, _, _, _, _, rfl, rfl, SqL.of (s1 _ _ hd), atI_gI (by omega) (by omega), _, _, rfl, rfl, kF _ _ (Same.refl _) rfl⟩
    · refine k D H1 hD ?_ s1
      rw [e1]
      unfold lft
      rw [fm_someR (cs.length) (fun i : Nat => V.int (gI cs (i : Int) - gI ds (i : Int))), List.map_map]
      rfl

/-! ### counts alike, cuts alike -/
def spCntA (CT : Addr) (K : PySem.W.Frag) : Sp := fun vs H Q _ => ∃ (t c a t' c' a' : Addr) (cs : List Int) (ns : List Nt) (m : V), vs = [.ref t, .ref t', m] ∧ RecAt H t c a cs ns ∧ RecAt H t' c' a' cs (about cs ns) ∧ RecOk cs ns ∧ prodC cs ≤ 5000 ∧ (m = .non ∨ ∃ p os, m = .ref p ∧ inR cs os ∧ runK cs ns os (zs cs) = true ∧ os.foldl stp (zs cs) = cs) ∧ ∀ H', Same H H' → Q (.bl true) H'
theorem ok_cntA {f : Addr} {fd : FuncData} (F : Fun K "_law_counts_alike" "_law_counts_alike" s_Lcounts_alike f fd) {C_TooMany : Addr} (F_how_many_ordersK : FnAtK P w K mg base 5 "how_many_orders" ["record", "most"] "most" (spHmo3 C_TooMany K)) (F_how_many_cutsK : FnAtK P w K mg base 5 "how_many_cuts" ["record", "most"] "most" (spHmc3 C_TooMany K)) (Bt : Blt mg) : FnOk P w K mg base CX0 6 f fd ["record", "turned", "many"] (spCntA C_TooMany K) := by
  refine F.ok sc_Lcounts_alike (fun vs H Q E h => ?_) (fun cdv A outer s H vs Q E hr h => ?_)
  · obtain ⟨t, c, a, t', c', a', cs, ns, m, rfl, _⟩ := h
    rfl
  · obtain ⟨t, c, a, t', c', a', cs, ns, m, rfl, R, R', ok, p5, hm, k⟩ := h
    have hu64 := hr.units
    have ok' := about_ok ok
    have few : ∀ {ms : List Nt} {ks : List (List Int)}, RecOk cs ms → ks.Nodup → (∀ ds ∈ ks, Rch cs ms ds) → (5000 : Int) < ks.length → False := fun om nd hk lt => by
      have := few_cuts nd fun ds hd => (hk ds hd).ok om.1
      omega
    refine ⟨_, (pss_cons (ps_if (pt_cmpR op_ne (pe_fnKw F_how_many_ordersK rfl rzF (hr.mono (by decide)) (by rfl) (pa_cons (pv 0) pa_nil) pe_int) (pe_fnKw F_how_many_ordersK rfl rzF (hr.mono (by decide)) (by rfl) (pa_cons (pv 1) pa_nil) pe_int) (nomark _)) (pss_one (ps_ret pe_bl)) pss_nil)
      (pss_one (ps_ret (pe_or (pe_cmpR op_isN (pv 2) pe_non (nomark _)) (pe_one (pe_cmpR op_eq (pe_fnKw F_how_many_cutsK rfl rzF (hr.mono (by decide)) (by rfl) (pa_cons (pv 0) pa_nil) pe_int) (pe_fnKw F_how_many_cutsK rfl rzF (hr.mono (by decide)) (by rfl) (pa_cons (pv 1) pa_nil) pe_int) (nomark _))))))), ?_⟩
    refine ⟨_, rfl, _, rfl, t, c, a, cs, ns, 5000, rfl, R, ok, by omega, by omega, fun ks H1 nd hk lt s1 => (few ok nd hk lt).elim, fun ks nd hk le H1 s1 => ?_⟩
    refine ⟨_, rfl, _, rfl, t', c', a', cs, _, 5000, rfl, R'.same s1, ok', by omega, by omega, fun ks H1 nd hk lt s1 => (few ok' nd hk lt).elim, fun ks' nd' hk' le' H2 s2 => ?_⟩
    refine ⟨rfl, _, rfl, ?_⟩
    rw [cnt_about ok, decide_eq_true rfl]
    refine iteF ?_
    dsimp only [tNext]
    have s12 := s1.trans s2
    rcases hm with rfl | ⟨p, os, rfl, ir, rr, e⟩
    · exact ⟨_, rfl, rfl, _, rfl, iteT (k H2 s12)⟩
    · refine ⟨_, rfl, rfl, _, rfl, iteF ?_⟩
      refine ⟨_, rfl, _, rfl, t, c, a, cs, ns, 5000, rfl, R.same s12, ok, by omega, by omega, fun ks H1 nd hk lt s1 => (few ok nd hk lt).elim, fun ls nl hl le H3 s3 => ?_⟩
      refine ⟨_, rfl, _, rfl, t', c', a', cs, _, 5000, rfl, (R'.same s12).same s3, ok', by omega, by omega, fun ks H1 nd hk lt s1 => (few ok' nd hk lt).elim, fun ls' nl' hl' le' H4 s4 => ?_⟩
      refine ⟨rfl, ?_⟩
      have := rch_about ok ir rr e nl hl nl' hl'
      rw [this, decide_eq_true rfl]
      exact k H4 ((s12.trans s3).trans s4)
theorem mx_fm {as bs : List Int} {n : Nat} (la : as.length = n) (lb : bs.length = n) : (List.range n).filterMap (fun i : Nat => some (V.int (if gI as (i : Int) < gI bs (i : Int) then gI bs (i : Int) else gI as (i : Int)))) = (mxL n as bs).map V.int := by
  unfold mxL
  rw [fm_someR n (fun i : Nat => V.int (if gI as (i : Int) < gI bs (i : Int) then gI bs (i : Int) else gI as (i : Int))), List.map_map]
  refine List.map_congr_left fun i _ => ?_
  show V.int _ = V.int (max _ _)
  congr 1
  split <;> omega
def spCutA (K : PySem.W.Frag) : Sp := fun vs H Q _ => ∃ (t c a t' c' a' d e : Addr) (cs ds es : List Int) (ns : List Nt), vs = [.ref t, .ref t', .ref d, .ref e] ∧ RecAt H t c a cs ns ∧ RecAt H t' c' a' cs (about cs ns) ∧ RecOk cs ns ∧ H d = some (.lst (ds.map V.int)) ∧ DoneOk cs ds ∧ H e = some (.lst (es.map V.int)) ∧ DoneOk cs es ∧ ∀ H', Same H H' → Q (.bl true) H'
theorem ok_cutA {f : Addr} {fd : FuncData} (F : Fun K "_law_cuts_alike" "_law_cuts_alike" s_Lcuts_alike f fd) (F_Lleft : FnAt P w K mg base 1 "_law_left" ["record", "some"] (spLeft K)) (F_is_cut : FnAt P w K mg base 5 "is_cut" ["record", "cut"] (spIsCut K)) (F_least_cut : FnAt P w K mg base 5 "least_cut" ["record", "some"] (spLeast K)) (F_greatest_cut : FnAt P w K mg base 5 "greatest_cut" ["record", "some"] (spGreatest K)) (Bt : Blt mg) : FnOk P w K mg base CX0 6 f fd ["record", "turned", "one", "other"] (spCutA K) := by
  refine F.ok sc_Lcuts_alike (fun vs H Q E h => ?_) (fun cdv A outer s H vs Q E hr h => ?_)
  · obtain ⟨t, c, a, t', c', a', d, e, cs, ds, es, ns, rfl, _⟩ := h
    rfl
  · obtain ⟨t, c, a, t', c', a', d, e, cs, ds, es, ns, rfl, R, R', ok, hd, dok, he, eok, k⟩ := h
    have hu64 := hr.units
    have ok' := about_ok ok
    have c8 := ok.1.1
    have il : ∀ (l : List Int), (if true = true then !PyData.eqv (.list (l.map PyData.int)) (.list (l.map PyData.int)) else PyData.eqv (.list (l.map PyData.int)) (.list (l.map PyData.int))) = false := fun l => by rw [if_pos rfl, eqv_list PyData.int eqv_int]; simp
    refine ⟨_, (pss_cons (ps_set (i := 4) sc_Lcuts_alike.nd rfl (Or.inl rfl) (pe_fn F_least_cut (hr.mono (by decide)) (by rfl) (pa_cons (pv 0) (pa_cons (pv 2) pa_nil))))
      (pss_cons (ps_set (i := 5) sc_Lcuts_alike.nd rfl (Or.inl rfl) (pe_fn F_greatest_cut (hr.mono (by decide)) (by rfl) (pa_cons (pv 0) (pa_cons (pv 2) pa_nil))))
      (pss_cons (ps_if (pt_cmpR op_ne (pe_fn F_is_cut (hr.mono (by decide)) (by rfl) (pa_cons (pv 0) (pa_cons (pv 2) pa_nil))) (pe_fn F_is_cut (hr.mono (by decide)) (by rfl) (pa_cons (pv 1) (pa_cons (pe_fn F_Lleft (hr.mono (by decide)) (by rfl) (pa_cons (pv 0) (pa_cons (pv 2) pa_nil))) pa_nil))) (nomark _)) (pss_one (ps_ret pe_bl)) pss_nil)
      (pss_cons (ps_if (pt_cmpR (op_neDK (K := K) rfl hu64) (pe_fn F_Lleft (hr.mono (by decide)) (by rfl) (pa_cons (pv 0) (pa_cons (pv 5) pa_nil))) (pe_fn F_least_cut (hr.mono (by decide)) (by rfl) (pa_cons (pv 1) (pa_cons (pe_fn F_Lleft (hr.mono (by decide)) (by rfl) (pa_cons (pv 0) (pa_cons (pv 2) pa_nil))) pa_nil))) (nomark _)) (pss_one (ps_ret pe_bl)) pss_nil)
      (pss_cons (ps_if (pt_cmpR (op_neDK (K := K) rfl hu64) (pe_fn F_Lleft (hr.mono (by decide)) (by rfl) (pa_cons (pv 0) (pa_cons (pv 4) pa_nil))) (pe_fn F_greatest_cut (hr.mono (by decide)) (by rfl) (pa_cons (pv 1) (pa_cons (pe_fn F_Lleft (hr.mono (by decide)) (by rfl) (pa_cons (pv 0) (pa_cons (pv 2) pa_nil))) pa_nil))) (nomark _)) (pss_one (ps_ret pe_bl)) pss_nil)
      (pss_cons (ps_setC (i := 6) rfl sc_Lcuts_alike.nd rfl (Or.inl rfl) (N := ["a", "b"]) (own := ["a", "b"]) (caps := []) (CompScope.of (by kernel_rfl)) (pi_zipK (K := K) rfl (by rfl) Bt.b_zip (pa_cons (pv 2) (pa_cons (pv 3) pa_nil))) (fun _ _ _ _ => (pg_tupK (K := K) (n := 2) rfl rfl (pgs_cons (pg_name (i := 0) (show List.Nodup (["a", "b"] : List Str) by decide +kernel) rfl (Or.inl rfl)) (pgs_cons (pg_name (i := 1) (show List.Nodup (["a", "b"] : List Str) by decide +kernel) rfl (Or.inl rfl)) pgs_nil)))) (fun _ _ _ _ => pts_nil) (fun _ _ _ _ => (pe_callB (call_max2 rfl) (by rfl) Bt.b_max bt_max (pa_cons (pv 0) (pa_cons (pv 1) pa_nil)))))
      (pss_cons (ps_if (pt_cmpR (op_neDK (K := K) rfl hu64) (pe_fn F_least_cut (hr.mono (by decide)) (by rfl) (pa_cons (pv 0) (pa_cons (pv 6) pa_nil))) (pe_comp rfl (N := ["a", "b"]) (own := ["a", "b"]) (caps := []) (CompScope.of (by kernel_rfl)) (pi_zipK (K := K) rfl (by rfl) Bt.b_zip (pa_cons (pv 4) (pa_cons (pe_fn F_least_cut (hr.mono (by decide)) (by rfl) (pa_cons (pv 0) (pa_cons (pv 3) pa_nil))) pa_nil))) (fun _ _ _ _ => (pg_tupK (K := K) (n := 2) rfl rfl (pgs_cons (pg_name (i := 0) (show List.Nodup (["a", "b"] : List Str) by decide +kernel) rfl (Or.inl rfl)) (pgs_cons (pg_name (i := 1) (show List.Nodup (["a", "b"] : List Str) by decide +kernel) rfl (Or.inl rfl)) pgs_nil)))) (fun _ _ _ _ => pts_nil) (fun _ _ _ _ => (pe_callB (call_max2 rfl) (by rfl) Bt.b_max bt_max (pa_cons (pv 0) (pa_cons (pv 1) pa_nil))))) (nomark _)) (pss_one (ps_ret pe_bl)) pss_nil)
      (pss_one (ps_ret (pe_and (pe_cmpR op_eq (pe_fn F_is_cut (hr.mono (by decide)) (by rfl) (pa_cons (pv 0) (pa_cons (pv 2) pa_nil))) (pe_cmpR (op_eqDK (K := K) rfl hu64) (pv 4) (pv 2) (nomark _)) (nomark _)) (pe_one (pe_cmpR op_eq (pe_fn F_is_cut (hr.mono (by decide)) (by rfl) (pa_cons (pv 0) (pa_cons (pv 2) pa_nil))) (pe_cmpR (op_eqDK (K := K) rfl hu64) (pv 5) (pv 2) (nomark _)) (nomark _))))))))))))), ?_⟩
    refine ⟨_, rfl, _, rfl, t, c, a, d, cs, ds, ns, rfl, R, ok, hd, dok, fun n1 L H1 hn1 hL LL s1 => ?_⟩
    refine ⟨_, rfl, _, rfl, t, c, a, d, cs, ds, ns, rfl, R.same s1, ok, s1 _ _ hd, dok, fun n2 G H2 hn2 hG GG s2 => ?_⟩
    have S2 := s1.trans s2
    have hL2 := s2 _ _ hL
    clear hL hn1 hn2
    -- is_cut(record, one) != is_cut(turned, left)
    refine ⟨_, rfl, _, rfl, t, c, a, d, cs, ds, ns, rfl, R.same S2, ok, S2 _ _ hd, dok, fun H3 s3 => ?_⟩
    have S3 := S2.trans s3
    refine ⟨_, rfl, _, rfl, _, rfl, t, c, a, d, cs, ds, ns, rfl, R.same S3, ok.1, S3 _ _ hd, dok.1, fun p4 H4 hp4 e4 s4 => ?_⟩
    have S4 := S3.trans s4
    refine ⟨t', c', a', p4, cs, _, _, rfl, R'.same S4, ok', e4, lft_ok dok, fun H5 s5 => ?_⟩
    have S5 := S4.trans s5
    refine ⟨rfl, _, rfl, ?_⟩
    have e1 : decide (brk ds ns = []) = decide (brk (lft cs ds) (about cs ns) = []) := by
      rw [decide_eq_decide, brk_nil, brk_nil, closed_about ok]
    rw [e1, decide_eq_true rfl]
    refine iteF ?_
    dsimp only [tNext]
    have hL5 := s5 _ _ (s4 _ _ (s3 _ _ hL2))
    have hG5 := s5 _ _ (s4 _ _ (s3 _ _ hG))
    clear e4 hp4 hL2 hG
    -- left(record, greatest) != least_cut(turned, left(record, one))
    refine ⟨_, rfl, _, rfl, t, c, a, n2, cs, G, ns, rfl, R.same S5, ok.1, hG5, GG.1.1, fun p6 H6 hp6 e6 s6 => ?_⟩
    have S6 := S5.trans s6
    refine ⟨_, rfl, _, rfl, _, rfl, t, c, a, d, cs, ds, ns, rfl, R.same S6, ok.1, S6 _ _ hd, dok.1, fun p7 H7 hp7 e7 s7 => ?_⟩
    have S7 := S6.trans s7
    refine ⟨t', c', a', p7, cs, _, _, rfl, R'.same S7, ok', e7, lft_ok dok, fun p8 L8 H8 hp8 hL8 LL8 s8 => ?_⟩
    have eG := LL8.eq (great_least ok dok.1 GG)
    subst eG
    refine ⟨_, _, dat_ints (s8 _ _ (s7 _ _ e6)), dat_ints hL8, shaped_ints _, shaped_ints _, _, rfl, ?_⟩
    rw [il]
    refine iteF ?_
    dsimp only [tNext]
    have S8 := S7.trans s8
    have u68 := (s6.trans s7).trans s8
    have hL9 := u68 _ _ hL5
    have hG9 := u68 _ _ hG5
    clear e6 e7 hp6 hp7 hp8 hL8 LL8 hL5 hG5
    -- left(record, least) != greatest_cut(turned, left(record, one))
    refine ⟨_, rfl, _, rfl, t, c, a, n1, cs, L, ns, rfl, R.same S8, ok.1, hL9, LL.1.1, fun p6 H9 hp6 e6 s9 => ?_⟩
    have S9 := S8.trans s9
    refine ⟨_, rfl, _, rfl, _, rfl, t, c, a, d, cs, ds, ns, rfl, R.same S9, ok.1, S9 _ _ hd, dok.1, fun p7 H10 hp7 e7 s10 => ?_⟩
    have S10 := S9.trans s10
    refine ⟨t', c', a', p7, cs, _, _, rfl, R'.same S10, ok', e7, lft_ok dok, fun p8 L8 H11 hp8 hL8 LL8 s11 => ?_⟩
    have eG := LL8.eq (least_great ok dok.1 LL)
    subst eG
    refine ⟨_, _, dat_ints (s11 _ _ (s10 _ _ e6)), dat_ints hL8, shaped_ints _, shaped_ints _, _, rfl, ?_⟩
    rw [il]
    refine iteF ?_
    dsimp only [tNext]
    have S11 := S10.trans s11
    have u9 := (s9.trans s10).trans s11
    have hL11 := u9 _ _ hL9
    have hG11 := u9 _ _ hG9
    clear e6 e7 hp6 hp7 hp8 hL8 LL8 hL9 hG9
    -- both
    have mm : ∀ {as bs : List Int} {i : Nat} {x y : V}, (as.map V.int)[i]? = some x → (bs.map V.int)[i]? = some y → x = .int (gI as (i : Int)) ∧ y = .int (gI bs (i : Int)) := fun {as bs i x y} hx hy => by
      rw [List.getElem?_map] at hx hy
      cases eu : as[i]? with
      | none => rw [eu] at hx; cases hx
      | some u =>
        cases ev : bs[i]? with
        | none => rw [ev] at hy; cases hy
        | some v =>
          rw [eu] at hx
          rw [ev] at hy
          cases hx
          cases hy
          rw [gI_nat eu, gI_nat ev]
          exact ⟨rfl, rfl⟩
    refine ⟨_, rfl, _, rfl, d, e, _, _, rfl, SqL.of (S11 _ _ hd), SqL.of (S11 _ _ he), fun D hD => ?_⟩
    refine comp_valZ (K := K) (n := cs.length) (by rw [List.length_map, dok.1]) (by rw [List.length_map, eok.1]) (fun i => some (.int (if gI ds (i : Int) < gI es (i : Int) then gI es (i : Int) else gI ds (i : Int)))) hD (SqL.of (S11 _ _ hd)) (SqL.of (S11 _ _ he)) (by omega) (fun i x y H12 G' F hx hy s12 kG kF => ?_) (fun H12 s12 e12 => ?_)
    · obtain ⟨rfl, rfl⟩ := mm hx hy
      exact ⟨_, rfl, _, rfl, _, _, rfl, kF _ H12 (Same.refl _) rfl⟩
    rw [mx_fm dok.1 eok.1] at e12
    have S12 := S11.trans s12
    refine ⟨_, rfl, _, rfl, t, c, a, D, cs, _, ns, rfl, R.same S12, ok, e12, mx_ok dok eok, fun q1 M1 H13 hq1 hM1 MM1 s13 => ?_⟩
    have S13 := S12.trans s13
    refine ⟨_, rfl, _, rfl, _, rfl, t, c, a, e, cs, es, ns, rfl, R.same S13, ok, S13 _ _ he, eok, fun q2 M2 H14 hq2 hM2 MM2 s14 => ?_⟩
    have S14 := S13.trans s14
    have hL14 := s14 _ _ (s13 _ _ (s12 _ _ hL11))
    refine ⟨n1, q2, _, _, rfl, SqL.of hL14, SqL.of hM2, fun D2 hD2 => ?_⟩
    refine comp_valZ (K := K) (n := cs.length) (by rw [List.length_map, LL.1.1]) (by rw [List.length_map, MM2.1.1]) (fun i => some (.int (if gI L (i : Int) < gI M2 (i : Int) then gI M2 (i : Int) else gI L (i : Int)))) hD2 (SqL.of hL14) (SqL.of hM2) (by omega) (fun i x y H12 G' F hx hy s12 kG kF => ?_) (fun H15 s15 e15 => ?_)
    · obtain ⟨rfl, rfl⟩ := mm hx hy
      exact ⟨_, rfl, _, rfl, _, _, rfl, kF _ H12 (Same.refl _) rfl⟩
    rw [mx_fm LL.1.1 MM2.1.1] at e15
    have eM := MM1.eq (least_max ok LL MM2)
    subst eM
    refine ⟨_, _, dat_ints (s15 _ _ (s14 _ _ hM1)), dat_ints e15, shaped_ints _, shaped_ints _, _, rfl, ?_⟩
    rw [il]
    refine iteF ?_
    dsimp only [tNext]
    have S15 := S14.trans s15
    have hL15 := s15 _ _ hL14
    have hG15 := s15 _ _ (s14 _ _ (s13 _ _ (s12 _ _ hG11)))
    clear hL14 hL11 hG11 e12 e15 hM1 hM2 hD hD2
    have il2 : ∀ (l m : List Int), (if false = true then !PyData.eqv (.list (l.map PyData.int)) (.list (m.map PyData.int)) else PyData.eqv (.list (l.map PyData.int)) (.list (m.map PyData.int))) = decide (l = m) := fun l m => by rw [if_neg Bool.false_ne_true, eqv_list PyData.int eqv_int]
    -- the end
    refine ⟨_, rfl, _, rfl, t, c, a, d, cs, ds, ns, rfl, R.same S15, ok, S15 _ _ hd, dok, fun H16 s16 => ?_⟩
    have S16 := S15.trans s16
    refine ⟨_, rfl, _, rfl, _, _, dat_ints (s16 _ _ hL15), dat_ints (S16 _ _ hd), shaped_ints _, shaped_ints _, ?_⟩
    rw [il2]
    refine ⟨rfl, _, rfl, ?_⟩
    have q1 : decide (brk ds ns = []) = decide (L = ds) := by rw [decide_eq_decide, brk_nil, least_self dok LL]
    have q2 : decide (brk ds ns = []) = decide (G = ds) := by rw [decide_eq_decide, brk_nil, great_self dok GG]
    rw [q1, decide_eq_true rfl]
    refine iteT ?_
    refine ⟨_, rfl, _, rfl, t, c, a, d, cs, ds, ns, rfl, R.same S16, ok, S16 _ _ hd, dok, fun H17 s17 => ?_⟩
    have S17 := S16.trans s17
    refine ⟨_, rfl, _, rfl, _, _, dat_ints (s17 _ _ (s16 _ _ hG15)), dat_ints (S17 _ _ hd), shaped_ints _, shaped_ints _, ?_⟩
    rw [il2]
    refine ⟨rfl, ?_⟩
    rw [q2, decide_eq_true rfl]
    exact k H17 S17

/-! ### the law -/
theorem ord_fold {cs os : List Int} (h : OrdFull cs os) : os.foldl stp (zs cs) = cs := by
  have zl : (zs cs).length = cs.length := by simp [zs]
  refine ext_gI (fold_len zl) rfl fun i i0 i1 => ?_
  rw [fold_count h.1 zl i i0 i1, gI_zs, h.2.2 i i0 i1]
  omega
theorem ord_rev {cs os : List Int} (h : OrdFull cs os) : OrdFull cs os.reverse := ⟨inR_rev h.1, by rw [List.length_reverse]; exact h.2.1, fun i i0 i1 => by rw [List.count_reverse]; exact h.2.2 i i0 i1⟩
theorem frun_go {cs : List Int} {ns : List Nt} : ∀ {os ds : List Int}, frun cs ns os ds → runK cs ns os ds = true ∧ os.foldl stp ds = cs
  | [], ds, h => ⟨rfl, h⟩
  | h :: os, ds, f => by
    obtain ⟨f1, f2⟩ := f
    have fr : isFree cs ns ds h = true := (mem_freeH.mp (List.mem_of_mem_head? f1)).2.2
    have ih := frun_go (os := os) f2
    exact ⟨by show (if isFree cs ns ds h then runK cs ns os (stp ds h) else false) = true; rw [if_pos fr]; exact ih.1, ih.2⟩
/-- what first_order tells -/
def Fst (cs : List Int) (ns : List Nt) (v : V) : Prop := (v = .non ∧ cntW cs ns cs.sum.toNat (zs cs) = 0) ∨ ∃ p os, v = .ref p ∧ inR cs os ∧ runK cs ns os (zs cs) = true ∧ os.foldl stp (zs cs) = cs ∧ 1 ≤ cntW cs ns cs.sum.toNat (zs cs)
theorem Fst.none {cs : List Int} {ns : List Nt} (ok : RecOk cs ns) (h : Stuck cs ns) : Fst cs ns .non := by
  obtain ⟨es, de, ne, fe⟩ := h
  exact .inl ⟨rfl, stuck_cnt ok de ne fe _ (zs_ok ok.1) fun i i0 i1 => by rw [gI_zs]; exact (de.2 i i0 i1).1⟩
theorem Fst.some {cs : List Int} {ns : List Nt} (ok : RecOk cs ns) {os : List Int} (p : Addr) (f : frun cs ns os (zs cs)) (ir : inR cs os) : Fst cs ns (.ref p) := by
  have dz := zs_ok ok.1
  have s0 : (zs cs).sum = 0 := zs_sum cs
  have ol := frun_len dz f
  have c1 := frun_cnt f
  rw [show os.length = cs.sum.toNat by omega] at c1
  obtain ⟨g1, g2⟩ := frun_go f
  exact .inr ⟨p, os, rfl, ir, g1, g2, c1⟩
theorem Fst.alike {cs : List Int} {ns : List Nt} (ok : RecOk cs ns) {u v : V} (a : Fst cs ns u) (b : Fst cs (about cs ns) v) : decide (u = .non) = decide (v = .non) := by
  have e := cnt_about ok cs.sum.toNat
  rcases a with ⟨rfl, ca⟩ | ⟨p, os, rfl, _, _, _, ca⟩
  · rcases b with ⟨rfl, cb⟩ | ⟨q, os', rfl, _, _, _, cb⟩
    · rfl
    · omega
  · rcases b with ⟨rfl, cb⟩ | ⟨q, os', rfl, _, _, _, cb⟩
    · omega
    · rw [decide_eq_false (by intro z; cases z), decide_eq_false (by intro z; cases z)]
/-- what ring tells -/
def Rgt (H : Hp) (ns : List Nt) (v : V) : Prop := (v = .non ∧ ∀ ms, ¬ Rng ns ms) ∨ ∃ p cc, v = .ref p ∧ NtsAt H p cc ∧ Rng ns cc ∧ cc.length ≤ 8 ∧ ∀ ms, Rng ns ms → cc.length ≤ ms.length
theorem Rgt.same {H H' : Hp} {ns : List Nt} {v : V} (h : Rgt H ns v) (k : Same H H') : Rgt H' ns v := by
  rcases h with h | ⟨p, cc, e, N, r⟩
  · exact .inl h
  · exact .inr ⟨p, cc, e, N.same k, r⟩
def spLaw (K : PySem.W.Frag) : Sp := fun vs H Q _ => ∃ (a : Addr) (ns : List Int), vs = [.ref a] ∧ SqL K H a (ns.map V.int) ∧ ns.length ≤ 63 ∧ ∀ H', Q (.bl true) H'
theorem ok_law {f : Addr} {fd : FuncData} (F : Fun K "law" "law" s_law f fd) {C_TooMany : Addr} (F_Lbag : FnAt P w K mg base 1 "_law_bag" ["script"] (spBag K)) (F_Ldraw : FnAt P w K mg base 2 "_law_draw" ["bag", "many"] (spDraw K)) (F_Lrecord : FnAt P w K mg base 4 "_law_record" ["bag", "great"] (spRecordD K)) (F_Labout : FnAt P w K mg base 1 "_law_about" ["record"] (spAbout K)) (F_Lcuts_alike : FnAt P w K mg base 6 "_law_cuts_alike" ["record", "turned", "one", "other"] (spCutA K)) (F_Lorder : FnAt P w K mg base 3 "_law_order" ["bag", "counts"] (spOrder K)) (F_Lkept : FnAt P w K mg base 3 "_law_kept" ["bag", "record"] (spKept K)) (F_keeps : FnAt P w K mg base 5 "keeps" ["record", "order"] (spKeeps K)) (F_first_order : FnAt P w K mg base 5 "first_order" ["record"] (spFirst K)) (F_ring : FnAt P w K mg base 5 "ring" ["record"] (spRing3 K)) (F_Lcounts_alike : FnAt P w K mg base 6 "_law_counts_alike" ["record", "turned", "many"] (spCntA C_TooMany K)) (Bt : Blt mg) : FnOk P w K mg base CX0 7 f fd ["script"] (spLaw K) := by
  refine F.ok sc_law (fun vs H Q E h => ?_) (fun cdv A outer s H vs Q E hr h => ?_)
  · obtain ⟨a, ns, rfl, _⟩ := h
    rfl
  · obtain ⟨sa, sns, rfl, hS, hlen, k⟩ := h
    have hu64 := hr.units
    refine ⟨_, (pss_cons (ps_set (i := 1) sc_law.nd rfl (Or.inr rfl) (pe_fn F_Lbag (hr.mono (by decide)) (by rfl) (pa_cons (pv 0) pa_nil)))
      (pss_cons (ps_set (i := 2) sc_law.nd rfl (Or.inl rfl) (pe_callTy call_int1 (by rfl) Bt.b_int bt_int (pa_cons (pe_cmpR op_eq (pe_fn F_Ldraw (hr.mono (by decide)) (by rfl) (pa_cons (pv 1) (pa_cons pe_int pa_nil))) pe_int (nomark _)) pa_nil)))
      (pss_cons (ps_set (i := 3) sc_law.nd rfl (Or.inl rfl) (pe_cmpR op_eq (pe_fn F_Ldraw (hr.mono (by decide)) (by rfl) (pa_cons (pv 1) (pa_cons pe_int pa_nil))) pe_int (nomark _)))
      (pss_cons (ps_set (i := 4) sc_law.nd rfl (Or.inl rfl) (pe_fn F_Lrecord (hr.mono (by decide)) (by rfl) (pa_cons (pv 1) (pa_cons (pv 2) pa_nil))))
      (pss_cons (ps_set (i := 5) sc_law.nd rfl (Or.inl rfl) (pe_fn F_Labout (hr.mono (by decide)) (by rfl) (pa_cons (pv 4) pa_nil)))
      (pss_cons (ps_setC (i := 6) rfl sc_law.nd rfl (Or.inl rfl) (N := ["count", "bag"]) (own := ["count"]) (caps := [1]) (CompScope.of (by kernel_rfl)) (pi_listK (K := K) rfl (pe_ix (ix_tupK (K := K) rfl) (pv 4) pe_int (fun _ _ => rfl))) (fun _ _ _ _ => (pg_name (i := 0) (show List.Nodup (["count", "bag"] : List Str) by decide +kernel) rfl (Or.inl rfl))) (fun _ _ _ _ => pts_nil) (fun _ _ _ _ => (pe_fn F_Ldraw (hr.mono (by decide)) (by rfl) (pa_cons (pv 1) (pa_cons (pe_op op_add (pv 0) pe_int) pa_nil)))))
      (pss_cons (ps_setC (i := 7) rfl sc_law.nd rfl (Or.inl rfl) (N := ["count", "bag"]) (own := ["count"]) (caps := [1]) (CompScope.of (by kernel_rfl)) (pi_listK (K := K) rfl (pe_ix (ix_tupK (K := K) rfl) (pv 4) pe_int (fun _ _ => rfl))) (fun _ _ _ _ => (pg_name (i := 0) (show List.Nodup (["count", "bag"] : List Str) by decide +kernel) rfl (Or.inl rfl))) (fun _ _ _ _ => pts_nil) (fun _ _ _ _ => (pe_fn F_Ldraw (hr.mono (by decide)) (by rfl) (pa_cons (pv 1) (pa_cons (pe_op op_add (pv 0) pe_int) pa_nil)))))
      (pss_cons (ps_if (pt_not (pt_val (pe_fn F_Lcuts_alike (hr.mono (by decide)) (by rfl) (pa_cons (pv 4) (pa_cons (pv 5) (pa_cons (pv 6) (pa_cons (pv 7) pa_nil))))))) (pss_one (ps_ret pe_bl)) pss_nil)
      (pss_cons (ps_set (i := 8) sc_law.nd rfl (Or.inl rfl) (pe_ifExp (pt_val (pv 3)) (pe_fn F_Lorder (hr.mono (by decide)) (by rfl) (pa_cons (pv 1) (pa_cons (pe_ix (ix_tupK (K := K) rfl) (pv 4) pe_int (fun _ _ => rfl)) pa_nil))) (pe_fn F_Lkept (hr.mono (by decide)) (by rfl) (pa_cons (pv 1) (pa_cons (pv 4) pa_nil)))))
      (pss_cons (ps_if (pt_cmpR op_ne (pe_fn F_keeps (hr.mono (by decide)) (by rfl) (pa_cons (pv 4) (pa_cons (pv 8) pa_nil))) (pe_fn F_keeps (hr.mono (by decide)) (by rfl) (pa_cons (pv 5) (pa_cons (pe_revSl (K := K) rfl (pv 8) (pe_un un_neg pe_int)) pa_nil))) (nomark _)) (pss_one (ps_ret pe_bl)) pss_nil)
      (pss_cons (ps_set (i := 9) sc_law.nd rfl (Or.inl rfl) (pe_fn F_first_order (hr.mono (by decide)) (by rfl) (pa_cons (pv 4) pa_nil)))
      (pss_cons (ps_set (i := 10) sc_law.nd rfl (Or.inl rfl) (pe_fn F_ring (hr.mono (by decide)) (by rfl) (pa_cons (pv 4) pa_nil)))
      (pss_cons (ps_set (i := 11) sc_law.nd rfl (Or.inl rfl) (pe_fn F_ring (hr.mono (by decide)) (by rfl) (pa_cons (pv 5) pa_nil)))
      (pss_cons (ps_if (PW.pt (pw_or (pt_cmpR op_ne (pe_cmpR op_isN (pv 9) pe_non (nomark _)) (pe_cmpR op_isN (pe_fn F_first_order (hr.mono (by decide)) (by rfl) (pa_cons (pv 5) pa_nil)) pe_non (nomark _)) (nomark _)) (pw_or1 (pt_cmpR op_ne (pe_cmpR op_isN (pv 10) pe_non (nomark _)) (pe_cmpR op_isN (pv 11) pe_non (nomark _)) (nomark _))))) (pss_one (ps_ret pe_bl)) pss_nil)
      (pss_cons (ps_if (PW.pt (pw_and (pt_cmpR op_notN (pv 10) pe_non (nomark _)) (pw_and1 (pt_cmpR op_ne (pe_callB (call_len_seqK (K := K) rfl) (by rfl) Bt.b_len bt_len (pa_cons (pv 10) pa_nil)) (pe_callB (call_len_seqK (K := K) rfl) (by rfl) Bt.b_len bt_len (pa_cons (pv 11) pa_nil)) (nomark _))))) (pss_one (ps_ret pe_bl)) pss_nil)
      (pss_one (ps_ret (pe_or (pe_cmpR op_eq (pv 2) pe_int (nomark _)) (pe_one (pe_fn F_Lcounts_alike (hr.mono (by decide)) (by rfl) (pa_cons (pv 4) (pa_cons (pv 5) (pa_cons (pv 9) pa_nil))))))))))))))))))))))), ?_⟩
    refine ⟨_, rfl, sa, sns, rfl, hS, hlen, fun r b H1 hr1 hb1 B1 s1 => ?_⟩
    refine ⟨_, rfl, r, b, 8, 0, rfl, B1, by decide, by decide, by decide, fun z H2 z0 z1 B2 k2 => ?_⟩
    refine ⟨rfl, Or.inr ⟨_, rfl, ?_⟩⟩
    refine ⟨_, rfl, r, b, 3, 1, rfl, B2, by decide, by decide, by decide, fun y H3 y0 y1 B3 k3 => ⟨rfl, ?_⟩⟩
    have hg : (if decide (V.int z = V.int 7) = true then (1 : Int) else 0) = 0 ∨ (if decide (V.int z = V.int 7) = true then (1 : Int) else 0) = 1 := by
      by_cases q : z = 7
      · exact .inr (by simp [q])
      · exact .inl (by simp [q])
    generalize (if decide (V.int z = V.int 7) = true then (1 : Int) else 0) = g at hg ⊢
    refine ⟨_, rfl, _, rfl, r, b, 2, g, rfl, hg, B3, by decide, fun t c a cs ns H4 ht hc ha R4 ok sm B4 k4 nca n60 => ?_⟩
    obtain ⟨ncr, _⟩ := B3.ne hc
    obtain ⟨nar, _⟩ := B3.ne ha
    have c8 := ok.1.1
    have ok' := about_ok ok
    refine ⟨_, rfl, t, c, a, cs, ns, rfl, R4, ok, fun t' c' a' H5 ht' hc' ha' R5' s5 => ?_⟩
    obtain ⟨ncr', _⟩ := B4.ne hc'
    obtain ⟨nar', _⟩ := B4.ne ha'
    have R5 := R4.same s5
    have B5 := B4.keep s5
    have dr : ∀ {zs : List Int}, zs.length = cs.length → (∀ (i : Nat) (z : Int), zs[i]? = some z → 0 ≤ z ∧ z ≤ gI cs (i : Int)) → DoneOk cs zs := fun {zs} zl hz => ⟨zl, fun i i0 i1 => by
      obtain ⟨m, rfl⟩ := Int.eq_ofNat_of_zero_le i0
      have hm : m < zs.length := by omega
      have := hz m zs[m] (by simp [hm])
      rw [gI_nat (cs := zs) (i := m) (c := zs[m]) (by simp [hm])]
      exact this⟩
    -- one
    refine ⟨_, rfl, _, _, _, _, rfl, rfl, SqT.of R5.1, rfl, c, rfl, ⟨_, SqL.of R5.2.1⟩, fun D hD => ?_⟩
    refine comp_drawL (K := K) (f := 0) (fun i z => 0 ≤ z ∧ z ≤ gI cs i) hD B5 (by rw [List.length_map]; omega) R5.2.1 ncr (fun j x H6 F hj k6 B6 kF => ?_) (fun H6 ds zl hz e6 k6 B6 => ?_)
    · rw [List.getElem?_map] at hj
      cases ei : cs[j]? with
      | none => rw [ei] at hj; cases hj
      | some v =>
        rw [ei] at hj
        cases hj
        have gg := ok.1.gI (j : Int)
        rw [gI_nat ei] at gg
        have il := (List.getElem?_eq_some_iff.mp ei).1
        exact ⟨_, rfl, _, rfl, _, _, rfl, rfl, r, b, v + 1, _, rfl, B6, by omega, by omega, by omega, fun z H7 z0 z1 B7 k7 => kF z H7 ⟨z0, by rw [gI_nat ei]; omega⟩ k7 B7⟩
    rw [List.length_map] at zl B6
    have nDr := (B5.ne hD).1
    obtain ⟨ys5, hl5⟩ := B5.lst
    have R6 := R5.kp hl5 k6 ncr nar
    have R6' := R5'.kp hl5 k6 ncr' nar'
    have dok := dr zl hz
    clear hz zl
    -- other
    refine ⟨_, rfl, _, _, _, _, rfl, rfl, SqT.of R6.1, rfl, c, rfl, ⟨_, SqL.of R6.2.1⟩, fun D2 hD2 => ?_⟩
    refine comp_drawL (K := K) (f := 0) (fun i z => 0 ≤ z ∧ z ≤ gI cs i) hD2 B6 (by rw [List.length_map]; omega) R6.2.1 ncr (fun j x H7 F hj k7 B7 kF => ?_) (fun H7 es zl hz e7 k7 B7 => ?_)
    · rw [List.getElem?_map] at hj
      cases ei : cs[j]? with
      | none => rw [ei] at hj; cases hj
      | some v =>
        rw [ei] at hj
        cases hj
        have gg := ok.1.gI (j : Int)
        rw [gI_nat ei] at gg
        have il := (List.getElem?_eq_some_iff.mp ei).1
        exact ⟨_, rfl, _, rfl, _, _, rfl, rfl, r, b, v + 1, _, rfl, B7, by omega, by omega, by omega, fun z H7 z0 z1 B7 k7 => kF z H7 ⟨z0, by rw [gI_nat ei]; omega⟩ k7 B7⟩
    rw [List.length_map] at zl B7
    obtain ⟨ys6, hl6⟩ := B6.lst
    have R7 := R6.kp hl6 k7 ncr nar
    have R7' := R6'.kp hl6 k7 ncr' nar'
    have d7 := k7 _ _ e6 nDr
    have eok := dr zl hz
    clear hz zl
    refine ⟨_, rfl, _, rfl, _, rfl, _, rfl, t, c, a, t', c', a', D, D2, cs, ds, es, ns, rfl, R7, R7', ok, d7, dok, e7, eok, fun H8 s8 => ⟨_, rfl, iteF ?_⟩⟩
    dsimp only [tNext]
    have R8 := R7.same s8
    have R8' := R7'.same s8
    have B8 := B7.keep s8
    obtain ⟨ys8, hl8⟩ := B8.lst
    -- order
    refine seq_cps (fun σ H9 => ∃ (o : Addr) (os : List Int), σ = [some (.ref sa), some (.ref r), some (.int g), some (.bl (decide (V.int y = V.int 0))), some (.ref t), some (.ref t'), some (.ref D), some (.ref D2), some (.ref o), none, none, none] ∧ H9 o = some (.lst (os.map V.int)) ∧ OrdFull cs os ∧ Kp r H8 H9) (fun D' hD' _ => ?_) ?_
    · refine ⟨_, rfl, _, rfl, ite2 (fun _ => ?_) (fun _ => ?_)⟩
      · refine ⟨_, rfl, _, rfl, _, _, _, _, rfl, rfl, SqT.of R8.1, rfl, r, b, _, c, cs, rfl, B8, by omega, R8.2.1, ncr, ok.1, fun o os H9 _ eo oo oir _ k9 => ?_⟩
        exact hD' _ _ ⟨o, os, rfl, eo, ⟨oir, oo.1, oo.2⟩, k9⟩
      · refine ⟨_, rfl, _, rfl, r, b, _, t, c, a, cs, ns, rfl, B8, by omega, R8, ncr, nar, ok, fun o os H9 _ eo oo _ k9 => ?_⟩
        exact hD' _ _ ⟨o, os, rfl, eo, oo, k9⟩
    rintro σ H9 ⟨o, os, rfl, eo, fo, k9⟩
    have R9 := R8.kp hl8 k9 ncr nar
    have R9' := R8'.kp hl8 k9 ncr' nar'
    clear R8 R8' R7 R7' R6 R6' R5 R5' R4 k9 k7 k6 k4 k3 k2 d7 e7 e6 s8 s5
    have fe := ord_fold fo
    refine ⟨_, rfl, _, rfl, t, c, a, o, cs, os, ns, rfl, R9, ok, eo, fo, fun H10 s10 => ?_⟩
    refine ⟨_, rfl, _, rfl, _, rfl, o, _, rfl, rfl, SqL.of (s10 _ _ eo), fun q hq => ?_⟩
    have s11 := same_new (o := HO.lst (os.map V.int).reverse) hq
    have e11 : (upd H10 q (.lst (os.map V.int).reverse)) q = some (.lst (os.reverse.map V.int)) := by rw [List.map_reverse]; exact upd_same
    have S11 := s10.trans s11
    generalize upd H10 q (.lst (os.map V.int).reverse) = H11 at s11 e11 S11 ⊢
    refine ⟨t', c', a', q, cs, os.reverse, _, rfl, R9'.same S11, ok', e11, ord_rev fo, fun H12 s12 => ?_⟩
    refine ⟨rfl, _, rfl, ?_⟩
    rw [run_aboutB ok fo.1 fe, decide_eq_true rfl]
    refine iteF ?_
    dsimp only [tNext]
    have S12 := S11.trans s12
    have R12 := R9.same S12
    have R12' := R9'.same S12
    clear S11 S12 s12 e11 s11 s10 hq R9 R9'
    -- first, loop, about
    refine seq_cps (fun σ H13 => ∃ (fv : V), σ = [some (.ref sa), some (.ref r), some (.int g), some (.bl (decide (V.int y = V.int 0))), some (.ref t), some (.ref t'), some (.ref D), some (.ref D2), some (.ref o), some fv, none, none] ∧ Fst cs ns fv ∧ Same H12 H13) (fun D' hD' _ => ?_) ?_
    · refine ⟨_, rfl, t, c, a, cs, ns, rfl, R12, ok, fun H13 st s13 => hD' _ _ ⟨_, rfl, .none ok st, s13⟩, fun p os' H13 hp e13 fr ir ol s13 => hD' _ _ ⟨_, rfl, .some ok p fr ir, s13⟩⟩
    rintro σ H13 ⟨fv, rfl, hf, s13⟩
    refine seq_cps (fun σ H14 => ∃ (lv : V), σ = [some (.ref sa), some (.ref r), some (.int g), some (.bl (decide (V.int y = V.int 0))), some (.ref t), some (.ref t'), some (.ref D), some (.ref D2), some (.ref o), some fv, some lv, none] ∧ Rgt H14 ns lv ∧ Same H12 H14) (fun D' hD' _ => ?_) ?_
    · refine ⟨_, rfl, t, c, a, cs, ns, rfl, R12.same s13, ok, fun no H14 s14 => hD' _ _ ⟨_, rfl, .inl ⟨rfl, no⟩, s13.trans s14⟩, fun p cc H14 s14 hp N rg le sh => hD' _ _ ⟨_, rfl, .inr ⟨p, cc, rfl, N, rg, by omega, sh⟩, s13.trans s14⟩⟩
    rintro σ H14 ⟨lv, rfl, hl, s14⟩
    refine seq_cps (fun σ H15 => ∃ (av : V), σ = [some (.ref sa), some (.ref r), some (.int g), some (.bl (decide (V.int y = V.int 0))), some (.ref t), some (.ref t'), some (.ref D), some (.ref D2), some (.ref o), some fv, some lv, some av] ∧ Rgt H15 ns lv ∧ Rgt H15 (about cs ns) av ∧ Same H12 H15) (fun D' hD' _ => ?_) ?_
    · refine ⟨_, rfl, t', c', a', cs, _, rfl, R12'.same s14, ok', fun no H15 s15 => hD' _ _ ⟨_, rfl, hl.same s15, .inl ⟨rfl, no⟩, s14.trans s15⟩, fun p cc H15 s15 hp N rg le sh => hD' _ _ ⟨_, rfl, hl.same s15, .inr ⟨p, cc, rfl, N, rg, by omega, sh⟩, s14.trans s15⟩⟩
    rintro σ H15 ⟨av, rfl, hl, hv, s15⟩
    have la : decide (lv = .non) = decide (av = .non) := by
      rcases hl with ⟨rfl, no⟩ | ⟨p, cc, rfl, _, rg, _⟩
      · rcases hv with ⟨rfl, _⟩ | ⟨q, dd, rfl, _, rg, _⟩
        · rfl
        · obtain ⟨c', rg', _⟩ := rng_about (cs := cs) rg
          rw [about_about] at rg'
          exact absurd rg' (no _)
      · rcases hv with ⟨rfl, no⟩ | ⟨q, dd, rfl, _⟩
        · obtain ⟨c', rg', _⟩ := rng_about (cs := cs) rg
          exact absurd rg' (no _)
        · rw [decide_eq_false (by intro z; cases z), decide_eq_false (by intro z; cases z)]
    refine seq_cps (fun σ H16 => σ = [some (.ref sa), some (.ref r), some (.int g), some (.bl (decide (V.int y = V.int 0))), some (.ref t), some (.ref t'), some (.ref D), some (.ref D2), some (.ref o), some fv, some lv, some av] ∧ Same H15 H16) (fun D' hD' _ => ?_) ?_
    · refine ⟨_, rfl, rfl, _, rfl, t', c', a', cs, _, rfl, R12'.same s15, ok', fun H16 st s16 => ?_, fun p os' H16 hp e16 fr ir ol s16 => ?_⟩
      · have fa := hf.alike ok (Fst.none ok' st)
        refine ⟨rfl, rfl, _, rfl, ?_⟩
        rw [fa, decide_eq_true rfl]
        refine iteF ?_
        refine ⟨_, rfl, rfl, _, rfl, rfl, rfl, _, rfl, ?_⟩
        rw [la, decide_eq_true rfl]
        exact iteF (hD' _ _ ⟨rfl, s16⟩)
      · have fa := hf.alike ok (Fst.some ok' p fr ir)
        refine ⟨rfl, rfl, _, rfl, ?_⟩
        rw [fa, decide_eq_true rfl]
        refine iteF ?_
        refine ⟨_, rfl, rfl, _, rfl, rfl, rfl, _, rfl, ?_⟩
        rw [la, decide_eq_true rfl]
        exact iteF (hD' _ _ ⟨rfl, s16⟩)
    rintro σ H16 ⟨rfl, s16⟩
    refine seq_cps (fun σ H17 => σ = [some (.ref sa), some (.ref r), some (.int g), some (.bl (decide (V.int y = V.int 0))), some (.ref t), some (.ref t'), some (.ref D), some (.ref D2), some (.ref o), some fv, some lv, some av] ∧ Same H16 H17) (fun D' hD' _ => ?_) ?_
    · rcases hl with ⟨rfl, no⟩ | ⟨p, cc, rfl, N, rg, l8, sh⟩
      · exact ⟨_, rfl, rfl, _, rfl, iteF (iteF (hD' _ _ ⟨rfl, Same.refl _⟩))⟩
      · rcases hv with ⟨rfl, no⟩ | ⟨q, dd, rfl, N', rg', l8', sh'⟩
        · rw [decide_eq_true rfl] at la
          exact absurd (of_decide_eq_true la) (by intro z; cases z)
        · obtain ⟨vs1, hp1, d1⟩ := N.same s16
          obtain ⟨vs2, hp2, d2⟩ := N'.same s16
          have e1 : vs1.length = cc.length := by rw [d1.length, List.length_map]
          have e2 : vs2.length = dd.length := by rw [d2.length, List.length_map]
          have ee : vs1.length = vs2.length := by
            obtain ⟨c1, r1, q1⟩ := rng_about (cs := cs) rg
            obtain ⟨c2, r2, q2⟩ := rng_about (cs := cs) rg'
            rw [about_about] at r2
            have := sh _ r2
            have := sh' _ r1
            omega
          refine ⟨_, rfl, rfl, _, rfl, iteT ?_⟩
          refine ⟨_, rfl, p, _, rfl, .inl (SqL.of hp1), _, rfl, q, _, rfl, .inl (SqL.of hp2), rfl, _, rfl, ?_⟩
          rw [ee, decide_eq_true rfl]
          exact iteF (hD' _ _ ⟨rfl, Same.refl _⟩)
    rintro σ H17 ⟨rfl, s17⟩
    rcases hg with rfl | rfl
    · refine ⟨_, rfl, rfl, _, rfl, iteF ?_⟩
      have S17 := (s15.trans s16).trans s17
      have p5 : prodC cs ≤ 2401 := by have := prod_sm (n := 4) (sm rfl).1 (sm rfl).2; omega
      refine ⟨_, rfl, _, rfl, _, rfl, t, c, a, t', c', a', cs, ns, fv, rfl, R12.same S17, R12'.same S17, ok, by omega, ?_, fun H18 _ => k H18⟩
      rcases hf with ⟨rfl, _⟩ | ⟨p, os', rfl, ir, rk, fe', _⟩
      · exact .inl rfl
      · exact .inr ⟨p, os', rfl, ir, rk, fe'⟩
    · exact ⟨_, rfl, rfl, _, rfl, iteT (k _)⟩

end
theorem len0 {us : List Value} (h : us.length = 0) : us = [] := List.eq_nil_of_length_eq_zero h
theorem lenS {us : List Value} {n : Nat} (h : us.length = n + 1) : ∃ a vs, us = a :: vs ∧ vs.length = n := by
  cases us with
  | nil => cases h
  | cons a t => exact ⟨a, t, rfl, Nat.succ.inj h⟩
theorem bi_Lbag (kV doc pm : Value) (an : Option Addr) (cdv ct : Value) (us : List Value) (hl : us.length = (["script"] : List Str).length) : bindArgs (PySem.W.fnOf "_law_bag" "_law_bag" (defArgs s_Lbag) (defBody s_Lbag) (defScope s_Lbag) .none kV doc pm an cdv ct) ⟨us, []⟩ = pure ((["script"] : List Str).zip us) := by obtain ⟨_, _, rfl, h1⟩ := lenS hl; cases len0 h1; rfl
theorem bi_Lstir (kV doc pm : Value) (an : Option Addr) (cdv ct : Value) (us : List Value) (hl : us.length = (["number", "place"] : List Str).length) : bindArgs (PySem.W.fnOf "_law_stir" "_law_stir" (defArgs s_Lstir) (defBody s_Lstir) (defScope s_Lstir) .none kV doc pm an cdv ct) ⟨us, []⟩ = pure ((["number", "place"] : List Str).zip us) := by obtain ⟨_, _, rfl, h1⟩ := lenS hl; obtain ⟨_, _, rfl, h2⟩ := lenS h1; cases len0 h2; rfl
theorem bi_Ldraw (kV doc pm : Value) (an : Option Addr) (cdv ct : Value) (us : List Value) (hl : us.length = (["bag", "many"] : List Str).length) : bindArgs (PySem.W.fnOf "_law_draw" "_law_draw" (defArgs s_Ldraw) (defBody s_Ldraw) (defScope s_Ldraw) .none kV doc pm an cdv ct) ⟨us, []⟩ = pure ((["bag", "many"] : List Str).zip us) := by obtain ⟨_, _, rfl, h1⟩ := lenS hl; obtain ⟨_, _, rfl, h2⟩ := lenS h1; cases len0 h2; rfl
theorem bi_Lcounts (kV doc pm : Value) (an : Option Addr) (cdv ct : Value) (us : List Value) (hl : us.length = (["bag", "great"] : List Str).length) : bindArgs (PySem.W.fnOf "_law_counts" "_law_counts" (defArgs s_Lcounts) (defBody s_Lcounts) (defScope s_Lcounts) .none kV doc pm an cdv ct) ⟨us, []⟩ = pure ((["bag", "great"] : List Str).zip us) := by obtain ⟨_, _, rfl, h1⟩ := lenS hl; obtain ⟨_, _, rfl, h2⟩ := lenS h1; cases len0 h2; rfl
theorem bi_Lorder (kV doc pm : Value) (an : Option Addr) (cdv ct : Value) (us : List Value) (hl : us.length = (["bag", "counts"] : List Str).length) : bindArgs (PySem.W.fnOf "_law_order" "_law_order" (defArgs s_Lorder) (defBody s_Lorder) (defScope s_Lorder) .none kV doc pm an cdv ct) ⟨us, []⟩ = pure ((["bag", "counts"] : List Str).zip us) := by obtain ⟨_, _, rfl, h1⟩ := lenS hl; obtain ⟨_, _, rfl, h2⟩ := lenS h1; cases len0 h2; rfl
theorem bi_Lspots (kV doc pm : Value) (an : Option Addr) (cdv ct : Value) (us : List Value) (hl : us.length = (["order"] : List Str).length) : bindArgs (PySem.W.fnOf "_law_spots" "_law_spots" (defArgs s_Lspots) (defBody s_Lspots) (defScope s_Lspots) .none kV doc pm an cdv ct) ⟨us, []⟩ = pure ((["order"] : List Str).zip us) := by obtain ⟨_, _, rfl, h1⟩ := lenS hl; cases len0 h1; rfl
theorem bi_Lnote (kV doc pm : Value) (an : Option Addr) (cdv ct : Value) (us : List Value) (hl : us.length = (["bag", "counts"] : List Str).length) : bindArgs (PySem.W.fnOf "_law_note" "_law_note" (defArgs s_Lnote) (defBody s_Lnote) (defScope s_Lnote) .none kV doc pm an cdv ct) ⟨us, []⟩ = pure ((["bag", "counts"] : List Str).zip us) := by obtain ⟨_, _, rfl, h1⟩ := lenS hl; obtain ⟨_, _, rfl, h2⟩ := lenS h1; cases len0 h2; rfl
theorem bi_Lrecord (kV doc pm : Value) (an : Option Addr) (cdv ct : Value) (us : List Value) (hl : us.length = (["bag", "great"] : List Str).length) : bindArgs (PySem.W.fnOf "_law_record" "_law_record" (defArgs s_Lrecord) (defBody s_Lrecord) (defScope s_Lrecord) .none kV doc pm an cdv ct) ⟨us, []⟩ = pure ((["bag", "great"] : List Str).zip us) := by obtain ⟨_, _, rfl, h1⟩ := lenS hl; obtain ⟨_, _, rfl, h2⟩ := lenS h1; cases len0 h2; rfl
theorem bi_Lkept (kV doc pm : Value) (an : Option Addr) (cdv ct : Value) (us : List Value) (hl : us.length = (["bag", "record"] : List Str).length) : bindArgs (PySem.W.fnOf "_law_kept" "_law_kept" (defArgs s_Lkept) (defBody s_Lkept) (defScope s_Lkept) .none kV doc pm an cdv ct) ⟨us, []⟩ = pure ((["bag", "record"] : List Str).zip us) := by obtain ⟨_, _, rfl, h1⟩ := lenS hl; obtain ⟨_, _, rfl, h2⟩ := lenS h1; cases len0 h2; rfl
theorem bi_is_whole (kV doc pm : Value) (an : Option Addr) (cdv ct : Value) (us : List Value) (hl : us.length = (["value"] : List Str).length) : bindArgs (PySem.W.fnOf "is_whole" "is_whole" (defArgs s_is_whole) (defBody s_is_whole) (defScope s_is_whole) .none kV doc pm an cdv ct) ⟨us, []⟩ = pure ((["value"] : List Str).zip us) := by obtain ⟨_, _, rfl, h1⟩ := lenS hl; cases len0 h1; rfl
theorem bi_is_below (kV doc pm : Value) (an : Option Addr) (cdv ct : Value) (us : List Value) (hl : us.length = (["value", "count"] : List Str).length) : bindArgs (PySem.W.fnOf "is_below" "is_below" (defArgs s_is_below) (defBody s_is_below) (defScope s_is_below) .none kV doc pm an cdv ct) ⟨us, []⟩ = pure ((["value", "count"] : List Str).zip us) := by obtain ⟨_, _, rfl, h1⟩ := lenS hl; obtain ⟨_, _, rfl, h2⟩ := lenS h1; cases len0 h2; rfl
theorem bi_is_note (kV doc pm : Value) (an : Option Addr) (cdv ct : Value) (us : List Value) (hl : us.length = (["value"] : List Str).length) : bindArgs (PySem.W.fnOf "is_note" "is_note" (defArgs s_is_note) (defBody s_is_note) (defScope s_is_note) .none kV doc pm an cdv ct) ⟨us, []⟩ = pure ((["value"] : List Str).zip us) := by obtain ⟨_, _, rfl, h1⟩ := lenS hl; cases len0 h1; rfl
theorem bi_is_between (kV doc pm : Value) (an : Option Addr) (cdv ct : Value) (us : List Value) (hl : us.length = (["counts", "note"] : List Str).length) : bindArgs (PySem.W.fnOf "is_between" "is_between" (defArgs s_is_between) (defBody s_is_between) (defScope s_is_between) .none kV doc pm an cdv ct) ⟨us, []⟩ = pure ((["counts", "note"] : List Str).zip us) := by obtain ⟨_, _, rfl, h1⟩ := lenS hl; obtain ⟨_, _, rfl, h2⟩ := lenS h1; cases len0 h2; rfl
theorem bi_check_notes (kV doc pm : Value) (an : Option Addr) (cdv ct : Value) (us : List Value) (hl : us.length = (["record"] : List Str).length) : bindArgs (PySem.W.fnOf "check_notes" "check_notes" (defArgs s_check_notes) (defBody s_check_notes) (defScope s_check_notes) .none kV doc pm an cdv ct) ⟨us, []⟩ = pure ((["record"] : List Str).zip us) := by obtain ⟨_, _, rfl, h1⟩ := lenS hl; cases len0 h1; rfl
theorem bi_check_done (kV doc pm : Value) (an : Option Addr) (cdv ct : Value) (us : List Value) (hl : us.length = (["record", "done"] : List Str).length) : bindArgs (PySem.W.fnOf "check_done" "check_done" (defArgs s_check_done) (defBody s_check_done) (defScope s_check_done) .none kV doc pm an cdv ct) ⟨us, []⟩ = pure ((["record", "done"] : List Str).zip us) := by obtain ⟨_, _, rfl, h1⟩ := lenS hl; obtain ⟨_, _, rfl, h2⟩ := lenS h1; cases len0 h2; rfl
theorem bi_check_order (kV doc pm : Value) (an : Option Addr) (cdv ct : Value) (us : List Value) (hl : us.length = (["record", "order"] : List Str).length) : bindArgs (PySem.W.fnOf "check_order" "check_order" (defArgs s_check_order) (defBody s_check_order) (defScope s_check_order) .none kV doc pm an cdv ct) ⟨us, []⟩ = pure ((["record", "order"] : List Str).zip us) := by obtain ⟨_, _, rfl, h1⟩ := lenS hl; obtain ⟨_, _, rfl, h2⟩ := lenS h1; cases len0 h2; rfl
theorem bi_has (kV doc pm : Value) (an : Option Addr) (cdv ct : Value) (us : List Value) (hl : us.length = (["done", "touch"] : List Str).length) : bindArgs (PySem.W.fnOf "has" "has" (defArgs s_has) (defBody s_has) (defScope s_has) .none kV doc pm an cdv ct) ⟨us, []⟩ = pure ((["done", "touch"] : List Str).zip us) := by obtain ⟨_, _, rfl, h1⟩ := lenS hl; obtain ⟨_, _, rfl, h2⟩ := lenS h1; cases len0 h2; rfl
theorem bi_broken_notes (kV doc pm : Value) (an : Option Addr) (cdv ct : Value) (us : List Value) (hl : us.length = (["record", "done"] : List Str).length) : bindArgs (PySem.W.fnOf "broken_notes" "broken_notes" (defArgs s_broken_notes) (defBody s_broken_notes) (defScope s_broken_notes) .none kV doc pm an cdv ct) ⟨us, []⟩ = pure ((["record", "done"] : List Str).zip us) := by obtain ⟨_, _, rfl, h1⟩ := lenS hl; obtain ⟨_, _, rfl, h2⟩ := lenS h1; cases len0 h2; rfl
theorem bi_firsts_of (kV doc pm : Value) (an : Option Addr) (cdv ct : Value) (us : List Value) (hl : us.length = (["record"] : List Str).length) : bindArgs (PySem.W.fnOf "firsts_of" "firsts_of" (defArgs s_firsts_of) (defBody s_firsts_of) (defScope s_firsts_of) .none kV doc pm an cdv ct) ⟨us, []⟩ = pure ((["record"] : List Str).zip us) := by obtain ⟨_, _, rfl, h1⟩ := lenS hl; cases len0 h1; rfl
theorem bi_is_free (kV doc pm : Value) (an : Option Addr) (cdv ct : Value) (us : List Value) (hl : us.length = (["counts", "firsts", "done", "hand"] : List Str).length) : bindArgs (PySem.W.fnOf "is_free" "is_free" (defArgs s_is_free) (defBody s_is_free) (defScope s_is_free) .none kV doc pm an cdv ct) ⟨us, []⟩ = pure ((["counts", "firsts", "done", "hand"] : List Str).zip us) := by obtain ⟨_, _, rfl, h1⟩ := lenS hl; obtain ⟨_, _, rfl, h2⟩ := lenS h1; obtain ⟨_, _, rfl, h3⟩ := lenS h2; obtain ⟨_, _, rfl, h4⟩ := lenS h3; cases len0 h4; rfl
theorem bi_free_hands (kV doc pm : Value) (an : Option Addr) (cdv ct : Value) (us : List Value) (hl : us.length = (["counts", "firsts", "done"] : List Str).length) : bindArgs (PySem.W.fnOf "free_hands" "free_hands" (defArgs s_free_hands) (defBody s_free_hands) (defScope s_free_hands) .none kV doc pm an cdv ct) ⟨us, []⟩ = pure ((["counts", "firsts", "done"] : List Str).zip us) := by obtain ⟨_, _, rfl, h1⟩ := lenS hl; obtain ⟨_, _, rfl, h2⟩ := lenS h1; obtain ⟨_, _, rfl, h3⟩ := lenS h2; cases len0 h3; rfl
theorem bi_is_cut (kV doc pm : Value) (an : Option Addr) (cdv ct : Value) (us : List Value) (hl : us.length = (["record", "cut"] : List Str).length) : bindArgs (PySem.W.fnOf "is_cut" "is_cut" (defArgs s_is_cut) (defBody s_is_cut) (defScope s_is_cut) .none kV doc pm an cdv ct) ⟨us, []⟩ = pure ((["record", "cut"] : List Str).zip us) := by obtain ⟨_, _, rfl, h1⟩ := lenS hl; obtain ⟨_, _, rfl, h2⟩ := lenS h1; cases len0 h2; rfl
theorem bi_least_cut (kV doc pm : Value) (an : Option Addr) (cdv ct : Value) (us : List Value) (hl : us.length = (["record", "some"] : List Str).length) : bindArgs (PySem.W.fnOf "least_cut" "least_cut" (defArgs s_least_cut) (defBody s_least_cut) (defScope s_least_cut) .none kV doc pm an cdv ct) ⟨us, []⟩ = pure ((["record", "some"] : List Str).zip us) := by obtain ⟨_, _, rfl, h1⟩ := lenS hl; obtain ⟨_, _, rfl, h2⟩ := lenS h1; cases len0 h2; rfl
theorem bi_greatest_cut (kV doc pm : Value) (an : Option Addr) (cdv ct : Value) (us : List Value) (hl : us.length = (["record", "some"] : List Str).length) : bindArgs (PySem.W.fnOf "greatest_cut" "greatest_cut" (defArgs s_greatest_cut) (defBody s_greatest_cut) (defScope s_greatest_cut) .none kV doc pm an cdv ct) ⟨us, []⟩ = pure ((["record", "some"] : List Str).zip us) := by obtain ⟨_, _, rfl, h1⟩ := lenS hl; obtain ⟨_, _, rfl, h2⟩ := lenS h1; cases len0 h2; rfl
theorem bi_keeps (kV doc pm : Value) (an : Option Addr) (cdv ct : Value) (us : List Value) (hl : us.length = (["record", "order"] : List Str).length) : bindArgs (PySem.W.fnOf "keeps" "keeps" (defArgs s_keeps) (defBody s_keeps) (defScope s_keeps) .none kV doc pm an cdv ct) ⟨us, []⟩ = pure ((["record", "order"] : List Str).zip us) := by obtain ⟨_, _, rfl, h1⟩ := lenS hl; obtain ⟨_, _, rfl, h2⟩ := lenS h1; cases len0 h2; rfl
theorem bi_first_order (kV doc pm : Value) (an : Option Addr) (cdv ct : Value) (us : List Value) (hl : us.length = (["record"] : List Str).length) : bindArgs (PySem.W.fnOf "first_order" "first_order" (defArgs s_first_order) (defBody s_first_order) (defScope s_first_order) .none kV doc pm an cdv ct) ⟨us, []⟩ = pure ((["record"] : List Str).zip us) := by obtain ⟨_, _, rfl, h1⟩ := lenS hl; cases len0 h1; rfl
theorem bi_longer_chains (kV doc pm : Value) (an : Option Addr) (cdv ct : Value) (us : List Value) (hl : us.length = (["record", "chains"] : List Str).length) : bindArgs (PySem.W.fnOf "longer_chains" "longer_chains" (defArgs s_longer_chains) (defBody s_longer_chains) (defScope s_longer_chains) .none kV doc pm an cdv ct) ⟨us, []⟩ = pure ((["record", "chains"] : List Str).zip us) := by obtain ⟨_, _, rfl, h1⟩ := lenS hl; obtain ⟨_, _, rfl, h2⟩ := lenS h1; cases len0 h2; rfl
theorem bi_ring_from (kV doc pm : Value) (an : Option Addr) (cdv ct : Value) (us : List Value) (hl : us.length = (["record", "start"] : List Str).length) : bindArgs (PySem.W.fnOf "ring_from" "ring_from" (defArgs s_ring_from) (defBody s_ring_from) (defScope s_ring_from) .none kV doc pm an cdv ct) ⟨us, []⟩ = pure ((["record", "start"] : List Str).zip us) := by obtain ⟨_, _, rfl, h1⟩ := lenS hl; obtain ⟨_, _, rfl, h2⟩ := lenS h1; cases len0 h2; rfl
theorem bi_ring (kV doc pm : Value) (an : Option Addr) (cdv ct : Value) (us : List Value) (hl : us.length = (["record"] : List Str).length) : bindArgs (PySem.W.fnOf "ring" "ring" (defArgs s_ring) (defBody s_ring) (defScope s_ring) .none kV doc pm an cdv ct) ⟨us, []⟩ = pure ((["record"] : List Str).zip us) := by obtain ⟨_, _, rfl, h1⟩ := lenS hl; cases len0 h1; rfl
theorem bi_ways_to_cuts (kV doc pm : Value) (an : Option Addr) (cdv ct : Value) (us : List Value) (hl : us.length = (["record", "most"] : List Str).length) : bindArgs (PySem.W.fnOf "ways_to_cuts" "ways_to_cuts" (defArgs s_ways_to_cuts) (defBody s_ways_to_cuts) (defScope s_ways_to_cuts) .none kV doc pm an cdv ct) ⟨us, []⟩ = pure ((["record", "most"] : List Str).zip us) := by obtain ⟨_, _, rfl, h1⟩ := lenS hl; obtain ⟨_, _, rfl, h2⟩ := lenS h1; cases len0 h2; rfl
theorem bd0_how_many_cuts {tk : Tok} {K : PySem.W.Frag} {T : Addr} {tc : Value} {td : Option Addr} {tn : Nat} {tsl : Array (Option Value)} (d : K.lookup T = some ⟨tc, td, .seq #[.int 2000 tk] tn, tsl⟩) {kV doc pm : Value} {an : Option Addr} {cdv ct : Value} : Binds K (PySem.W.fnOf "how_many_cuts" "how_many_cuts" (defArgs s_how_many_cuts) (defBody s_how_many_cuts) (defScope s_how_many_cuts) (.ref T) kV doc pm an cdv ct) ["record", "most"] [] := by
  intro s us KX hl
  have hl : us.length = 2 := by simpa using hl
  obtain ⟨_, _, rfl, h1⟩ := lenS hl; obtain ⟨_, _, rfl, h2⟩ := lenS h1; cases len0 h2
  exact PySem.W.binds_K KX rfl d rfl rfl rfl
theorem bd1_how_many_cuts {tk : Tok} {K : PySem.W.Frag} {T : Addr} {tc : Value} {td : Option Addr} {tn : Nat} {tsl : Array (Option Value)} (d : K.lookup T = some ⟨tc, td, .seq #[.int 2000 tk] tn, tsl⟩) {kV doc pm : Value} {an : Option Addr} {cdv ct : Value} : Binds K (PySem.W.fnOf "how_many_cuts" "how_many_cuts" (defArgs s_how_many_cuts) (defBody s_how_many_cuts) (defScope s_how_many_cuts) (.ref T) kV doc pm an cdv ct) ["record", "most"] [.int 2000 tk] := by
  intro s us KX hl
  have hl : us.length = 1 := by simpa using hl
  obtain ⟨_, _, rfl, h1⟩ := lenS hl; cases len0 h1
  exact PySem.W.binds_K KX rfl d rfl rfl rfl
theorem bdK_how_many_cuts {tk : Tok} {K : PySem.W.Frag} {T : Addr} {tc : Value} {td : Option Addr} {tn : Nat} {tsl : Array (Option Value)} (d : K.lookup T = some ⟨tc, td, .seq #[.int 2000 tk] tn, tsl⟩) {kV doc pm : Value} {an : Option Addr} {cdv ct : Value} (s : Shared) (us : List Value) (z : Value) (KX : K.In s.heap) (hl : (us ++ [z]).length = (["record", "most"] : List Str).length) : BindsTo s (PySem.W.fnOf "how_many_cuts" "how_many_cuts" (defArgs s_how_many_cuts) (defBody s_how_many_cuts) (defScope s_how_many_cuts) (.ref T) kV doc pm an cdv ct) ⟨us, [("most", z)]⟩ ((["record", "most"] : List Str).zip (us ++ [z])) := by
  have hl : us.length = 1 := by simpa using hl
  obtain ⟨_, _, rfl, h1⟩ := lenS hl; cases len0 h1
  exact PySem.W.binds_K KX rfl d rfl rfl rfl
theorem bd0_how_many_orders {tk : Tok} {K : PySem.W.Frag} {T : Addr} {tc : Value} {td : Option Addr} {tn : Nat} {tsl : Array (Option Value)} (d : K.lookup T = some ⟨tc, td, .seq #[.int 2000 tk] tn, tsl⟩) {kV doc pm : Value} {an : Option Addr} {cdv ct : Value} : Binds K (PySem.W.fnOf "how_many_orders" "how_many_orders" (defArgs s_how_many_orders) (defBody s_how_many_orders) (defScope s_how_many_orders) (.ref T) kV doc pm an cdv ct) ["record", "most"] [] := by
  intro s us KX hl
  have hl : us.length = 2 := by simpa using hl
  obtain ⟨_, _, rfl, h1⟩ := lenS hl; obtain ⟨_, _, rfl, h2⟩ := lenS h1; cases len0 h2
  exact PySem.W.binds_K KX rfl d rfl rfl rfl
theorem bd1_how_many_orders {tk : Tok} {K : PySem.W.Frag} {T : Addr} {tc : Value} {td : Option Addr} {tn : Nat} {tsl : Array (Option Value)} (d : K.lookup T = some ⟨tc, td, .seq #[.int 2000 tk] tn, tsl⟩) {kV doc pm : Value} {an : Option Addr} {cdv ct : Value} : Binds K (PySem.W.fnOf "how_many_orders" "how_many_orders" (defArgs s_how_many_orders) (defBody s_how_many_orders) (defScope s_how_many_orders) (.ref T) kV doc pm an cdv ct) ["record", "most"] [.int 2000 tk] := by
  intro s us KX hl
  have hl : us.length = 1 := by simpa using hl
  obtain ⟨_, _, rfl, h1⟩ := lenS hl; cases len0 h1
  exact PySem.W.binds_K KX rfl d rfl rfl rfl
theorem bdK_how_many_orders {tk : Tok} {K : PySem.W.Frag} {T : Addr} {tc : Value} {td : Option Addr} {tn : Nat} {tsl : Array (Option Value)} (d : K.lookup T = some ⟨tc, td, .seq #[.int 2000 tk] tn, tsl⟩) {kV doc pm : Value} {an : Option Addr} {cdv ct : Value} (s : Shared) (us : List Value) (z : Value) (KX : K.In s.heap) (hl : (us ++ [z]).length = (["record", "most"] : List Str).length) : BindsTo s (PySem.W.fnOf "how_many_orders" "how_many_orders" (defArgs s_how_many_orders) (defBody s_how_many_orders) (defScope s_how_many_orders) (.ref T) kV doc pm an cdv ct) ⟨us, [("most", z)]⟩ ((["record", "most"] : List Str).zip (us ++ [z])) := by
  have hl : us.length = 1 := by simpa using hl
  obtain ⟨_, _, rfl, h1⟩ := lenS hl; cases len0 h1
  exact PySem.W.binds_K KX rfl d rfl rfl rfl
theorem bi_Labout (kV doc pm : Value) (an : Option Addr) (cdv ct : Value) (us : List Value) (hl : us.length = (["record"] : List Str).length) : bindArgs (PySem.W.fnOf "_law_about" "_law_about" (defArgs s_Labout) (defBody s_Labout) (defScope s_Labout) .none kV doc pm an cdv ct) ⟨us, []⟩ = pure ((["record"] : List Str).zip us) := by obtain ⟨_, _, rfl, h1⟩ := lenS hl; cases len0 h1; rfl
theorem bi_Lleft (kV doc pm : Value) (an : Option Addr) (cdv ct : Value) (us : List Value) (hl : us.length = (["record", "some"] : List Str).length) : bindArgs (PySem.W.fnOf "_law_left" "_law_left" (defArgs s_Lleft) (defBody s_Lleft) (defScope s_Lleft) .none kV doc pm an cdv ct) ⟨us, []⟩ = pure ((["record", "some"] : List Str).zip us) := by obtain ⟨_, _, rfl, h1⟩ := lenS hl; obtain ⟨_, _, rfl, h2⟩ := lenS h1; cases len0 h2; rfl
theorem bi_Lcounts_alike (kV doc pm : Value) (an : Option Addr) (cdv ct : Value) (us : List Value) (hl : us.length = (["record", "turned", "many"] : List Str).length) : bindArgs (PySem.W.fnOf "_law_counts_alike" "_law_counts_alike" (defArgs s_Lcounts_alike) (defBody s_Lcounts_alike) (defScope s_Lcounts_alike) .none kV doc pm an cdv ct) ⟨us, []⟩ = pure ((["record", "turned", "many"] : List Str).zip us) := by obtain ⟨_, _, rfl, h1⟩ := lenS hl; obtain ⟨_, _, rfl, h2⟩ := lenS h1; obtain ⟨_, _, rfl, h3⟩ := lenS h2; cases len0 h3; rfl
theorem bi_Lcuts_alike (kV doc pm : Value) (an : Option Addr) (cdv ct : Value) (us : List Value) (hl : us.length = (["record", "turned", "one", "other"] : List Str).length) : bindArgs (PySem.W.fnOf "_law_cuts_alike" "_law_cuts_alike" (defArgs s_Lcuts_alike) (defBody s_Lcuts_alike) (defScope s_Lcuts_alike) .none kV doc pm an cdv ct) ⟨us, []⟩ = pure ((["record", "turned", "one", "other"] : List Str).zip us) := by obtain ⟨_, _, rfl, h1⟩ := lenS hl; obtain ⟨_, _, rfl, h2⟩ := lenS h1; obtain ⟨_, _, rfl, h3⟩ := lenS h2; obtain ⟨_, _, rfl, h4⟩ := lenS h3; cases len0 h4; rfl
theorem all_mk {l : PySem.W.OpenLaw} {w : World} {K : PySem.W.Frag} {h : Heap} {mg : Str → Option Value} {fa f0 f1 f2 f3 f4 f5 f6 f7 f8 f9 f10 f11 f12 f13 f14 f15 f16 f17 f18 f19 f20 f21 f22 f23 f24 f25 f26 f27 f28 f29 f30 f31 f32 f33 f34 f35 f36 C_TooMany : Addr} (X : K.In h) (G : h.Ns mainGlobals mg) (hfa : mg "law" = some (.ref fa))
    {od0 an0 od1 an1 od2 an2 od3 an3 od4 an4 od5 an5 od6 an6 od7 an7 od8 an8 od9 an9 od10 an10 od11 an11 od12 an12 od13 an13 od14 an14 od15 an15 od16 an16 od17 an17 od18 an18 od19 an19 od20 an20 od21 an21 od22 an22 od23 an23 od24 an24 od25 an25 od26 an26 od27 an27 od28 an28 od29 an29 od30 an30 od31 an31 od32 an32 od33 an33 od34 an34 od35 an35 od36 an36 : Option Addr} {sl0 sl1 sl2 sl3 sl4 sl5 sl6 sl7 sl8 sl9 sl10 sl11 sl12 sl13 sl14 sl15 sl16 sl17 sl18 sl19 sl20 sl21 sl22 sl23 sl24 sl25 sl26 sl27 sl28 sl29 sl30 sl31 sl32 sl33 sl34 sl35 sl36 : Array (Option Value)} {oc0 kV0 dc0 pm0 cd0 ct0 oc1 kV1 dc1 pm1 cd1 ct1 oc2 kV2 dc2 pm2 cd2 ct2 oc3 kV3 dc3 pm3 cd3 ct3 oc4 kV4 dc4 pm4 cd4 ct4 oc5 kV5 dc5 pm5 cd5 ct5 oc6 kV6 dc6 pm6 cd6 ct6 oc7 kV7 dc7 pm7 cd7 ct7 oc8 kV8 dc8 pm8 cd8 ct8 oc9 kV9 dc9 pm9 cd9 ct9 oc10 kV10 dc10 pm10 cd10 ct10 oc11 kV11 dc11 pm11 cd11 ct11 oc12 kV12 dc12 pm12 cd12 ct12 oc13 kV13 dc13 pm13 cd13 ct13 oc14 kV14 dc14 pm14 cd14 ct14 oc15 kV15 dc15 pm15 cd15 ct15 oc16 kV16 dc16 pm16 cd16 ct16 oc17 kV17 dc17 pm17 cd17 ct17 oc18 kV18 dc18 pm18 cd18 ct18 oc19 kV19 dc19 pm19 cd19 ct19 oc20 kV20 dc20 pm20 cd20 ct20 oc21 kV21 dc21 pm21 cd21 ct21 oc22 kV22 dc22 pm22 cd22 ct22 oc23 kV23 dc23 pm23 cd23 ct23 oc24 kV24 dc24 pm24 cd24 ct24 oc25 kV25 dc25 pm25 cd25 ct25 oc26 kV26 dc26 pm26 cd26 ct26 oc27 kV27 dc27 pm27 cd27 ct27 oc28 kV28 dc28 pm28 cd28 ct28 oc29 kV29 dc29 pm29 cd29 ct29 oc30 kV30 dc30 pm30 cd30 ct30 oc31 kV31 dc31 pm31 cd31 ct31 oc32 kV32 dc32 pm32 cd32 ct32 oc33 kV33 dc33 pm33 cd33 ct33 oc34 kV34 dc34 pm34 cd34 ct34 oc35 kV35 dc35 pm35 cd35 ct35 oc36 kV36 dc36 pm36 cd36 ct36 : Value}
    (a0 : PySem.W.nsIn K mainGlobals "_law_bag" = some (some (.ref f0))) (l0 : K.lookup f0 = some ⟨oc0, od0, .func (PySem.W.fnOf "_law_bag" "_law_bag" (defArgs s_Lbag) (defBody s_Lbag) (defScope s_Lbag) .none kV0 dc0 pm0 an0 cd0 ct0), sl0⟩) (c0 : PySem.W.codeIn K cd0 "_law_bag" = true) (k0 : PySem.W.keepIn K (.ref f0) = true)
    (a1 : PySem.W.nsIn K mainGlobals "_law_stir" = some (some (.ref f1))) (l1 : K.lookup f1 = some ⟨oc1, od1, .func (PySem.W.fnOf "_law_stir" "_law_stir" (defArgs s_Lstir) (defBody s_Lstir) (defScope s_Lstir) .none kV1 dc1 pm1 an1 cd1 ct1), sl1⟩) (c1 : PySem.W.codeIn K cd1 "_law_stir" = true) (k1 : PySem.W.keepIn K (.ref f1) = true)
    (a2 : PySem.W.nsIn K mainGlobals "_law_draw" = some (some (.ref f2))) (l2 : K.lookup f2 = some ⟨oc2, od2, .func (PySem.W.fnOf "_law_draw" "_law_draw" (defArgs s_Ldraw) (defBody s_Ldraw) (defScope s_Ldraw) .none kV2 dc2 pm2 an2 cd2 ct2), sl2⟩) (c2 : PySem.W.codeIn K cd2 "_law_draw" = true) (k2 : PySem.W.keepIn K (.ref f2) = true)
    (a3 : PySem.W.nsIn K mainGlobals "_law_counts" = some (some (.ref f3))) (l3 : K.lookup f3 = some ⟨oc3, od3, .func (PySem.W.fnOf "_law_counts" "_law_counts" (defArgs s_Lcounts) (defBody s_Lcounts) (defScope s_Lcounts) .none kV3 dc3 pm3 an3 cd3 ct3), sl3⟩) (c3 : PySem.W.codeIn K cd3 "_law_counts" = true) (k3 : PySem.W.keepIn K (.ref f3) = true)
    (a4 : PySem.W.nsIn K mainGlobals "_law_order" = some (some (.ref f4))) (l4 : K.lookup f4 = some ⟨oc4, od4, .func (PySem.W.fnOf "_law_order" "_law_order" (defArgs s_Lorder) (defBody s_Lorder) (defScope s_Lorder) .none kV4 dc4 pm4 an4 cd4 ct4), sl4⟩) (c4 : PySem.W.codeIn K cd4 "_law_order" = true) (k4 : PySem.W.keepIn K (.ref f4) = true)
    (a5 : PySem.W.nsIn K mainGlobals "_law_spots" = some (some (.ref f5))) (l5 : K.lookup f5 = some ⟨oc5, od5, .func (PySem.W.fnOf "_law_spots" "_law_spots" (defArgs s_Lspots) (defBody s_Lspots) (defScope s_Lspots) .none kV5 dc5 pm5 an5 cd5 ct5), sl5⟩) (c5 : PySem.W.codeIn K cd5 "_law_spots" = true) (k5 : PySem.W.keepIn K (.ref f5) = true)
    (a6 : PySem.W.nsIn K mainGlobals "_law_note" = some (some (.ref f6))) (l6 : K.lookup f6 = some ⟨oc6, od6, .func (PySem.W.fnOf "_law_note" "_law_note" (defArgs s_Lnote) (defBody s_Lnote) (defScope s_Lnote) .none kV6 dc6 pm6 an6 cd6 ct6), sl6⟩) (c6 : PySem.W.codeIn K cd6 "_law_note" = true) (k6 : PySem.W.keepIn K (.ref f6) = true)
    (a7 : PySem.W.nsIn K mainGlobals "_law_record" = some (some (.ref f7))) (l7 : K.lookup f7 = some ⟨oc7, od7, .func (PySem.W.fnOf "_law_record" "_law_record" (defArgs s_Lrecord) (defBody s_Lrecord) (defScope s_Lrecord) .none kV7 dc7 pm7 an7 cd7 ct7), sl7⟩) (c7 : PySem.W.codeIn K cd7 "_law_record" = true) (k7 : PySem.W.keepIn K (.ref f7) = true)
    (a8 : PySem.W.nsIn K mainGlobals "_law_kept" = some (some (.ref f8))) (l8 : K.lookup f8 = some ⟨oc8, od8, .func (PySem.W.fnOf "_law_kept" "_law_kept" (defArgs s_Lkept) (defBody s_Lkept) (defScope s_Lkept) .none kV8 dc8 pm8 an8 cd8 ct8), sl8⟩) (c8 : PySem.W.codeIn K cd8 "_law_kept" = true) (k8 : PySem.W.keepIn K (.ref f8) = true)
    (a9 : PySem.W.nsIn K mainGlobals "is_whole" = some (some (.ref f9))) (l9 : K.lookup f9 = some ⟨oc9, od9, .func (PySem.W.fnOf "is_whole" "is_whole" (defArgs s_is_whole) (defBody s_is_whole) (defScope s_is_whole) .none kV9 dc9 pm9 an9 cd9 ct9), sl9⟩) (c9 : PySem.W.codeIn K cd9 "is_whole" = true) (k9 : PySem.W.keepIn K (.ref f9) = true)
    (a10 : PySem.W.nsIn K mainGlobals "is_below" = some (some (.ref f10))) (l10 : K.lookup f10 = some ⟨oc10, od10, .func (PySem.W.fnOf "is_below" "is_below" (defArgs s_is_below) (defBody s_is_below) (defScope s_is_below) .none kV10 dc10 pm10 an10 cd10 ct10), sl10⟩) (c10 : PySem.W.codeIn K cd10 "is_below" = true) (k10 : PySem.W.keepIn K (.ref f10) = true)
    (a11 : PySem.W.nsIn K mainGlobals "is_note" = some (some (.ref f11))) (l11 : K.lookup f11 = some ⟨oc11, od11, .func (PySem.W.fnOf "is_note" "is_note" (defArgs s_is_note) (defBody s_is_note) (defScope s_is_note) .none kV11 dc11 pm11 an11 cd11 ct11), sl11⟩) (c11 : PySem.W.codeIn K cd11 "is_note" = true) (k11 : PySem.W.keepIn K (.ref f11) = true)
    (a12 : PySem.W.nsIn K mainGlobals "is_between" = some (some (.ref f12))) (l12 : K.lookup f12 = some ⟨oc12, od12, .func (PySem.W.fnOf "is_between" "is_between" (defArgs s_is_between) (defBody s_is_between) (defScope s_is_between) .none kV12 dc12 pm12 an12 cd12 ct12), sl12⟩) (c12 : PySem.W.codeIn K cd12 "is_between" = true) (k12 : PySem.W.keepIn K (.ref f12) = true)
    (a13 : PySem.W.nsIn K mainGlobals "check_notes" = some (some (.ref f13))) (l13 : K.lookup f13 = some ⟨oc13, od13, .func (PySem.W.fnOf "check_notes" "check_notes" (defArgs s_check_notes) (defBody s_check_notes) (defScope s_check_notes) .none kV13 dc13 pm13 an13 cd13 ct13), sl13⟩) (c13 : PySem.W.codeIn K cd13 "check_notes" = true) (k13 : PySem.W.keepIn K (.ref f13) = true)
    (a14 : PySem.W.nsIn K mainGlobals "check_done" = some (some (.ref f14))) (l14 : K.lookup f14 = some ⟨oc14, od14, .func (PySem.W.fnOf "check_done" "check_done" (defArgs s_check_done) (defBody s_check_done) (defScope s_check_done) .none kV14 dc14 pm14 an14 cd14 ct14), sl14⟩) (c14 : PySem.W.codeIn K cd14 "check_done" = true) (k14 : PySem.W.keepIn K (.ref f14) = true)
    (a15 : PySem.W.nsIn K mainGlobals "check_order" = some (some (.ref f15))) (l15 : K.lookup f15 = some ⟨oc15, od15, .func (PySem.W.fnOf "check_order" "check_order" (defArgs s_check_order) (defBody s_check_order) (defScope s_check_order) .none kV15 dc15 pm15 an15 cd15 ct15), sl15⟩) (c15 : PySem.W.codeIn K cd15 "check_order" = true) (k15 : PySem.W.keepIn K (.ref f15) = true)
    (a16 : PySem.W.nsIn K mainGlobals "has" = some (some (.ref f16))) (l16 : K.lookup f16 = some ⟨oc16, od16, .func (PySem.W.fnOf "has" "has" (defArgs s_has) (defBody s_has) (defScope s_has) .none kV16 dc16 pm16 an16 cd16 ct16), sl16⟩) (c16 : PySem.W.codeIn K cd16 "has" = true) (k16 : PySem.W.keepIn K (.ref f16) = true)
    (a17 : PySem.W.nsIn K mainGlobals "broken_notes" = some (some (.ref f17))) (l17 : K.lookup f17 = some ⟨oc17, od17, .func (PySem.W.fnOf "broken_notes" "broken_notes" (defArgs s_broken_notes) (defBody s_broken_notes) (defScope s_broken_notes) .none kV17 dc17 pm17 an17 cd17 ct17), sl17⟩) (c17 : PySem.W.codeIn K cd17 "broken_notes" = true) (k17 : PySem.W.keepIn K (.ref f17) = true)
    (a18 : PySem.W.nsIn K mainGlobals "firsts_of" = some (some (.ref f18))) (l18 : K.lookup f18 = some ⟨oc18, od18, .func (PySem.W.fnOf "firsts_of" "firsts_of" (defArgs s_firsts_of) (defBody s_firsts_of) (defScope s_firsts_of) .none kV18 dc18 pm18 an18 cd18 ct18), sl18⟩) (c18 : PySem.W.codeIn K cd18 "firsts_of" = true) (k18 : PySem.W.keepIn K (.ref f18) = true)
    (a19 : PySem.W.nsIn K mainGlobals "is_free" = some (some (.ref f19))) (l19 : K.lookup f19 = some ⟨oc19, od19, .func (PySem.W.fnOf "is_free" "is_free" (defArgs s_is_free) (defBody s_is_free) (defScope s_is_free) .none kV19 dc19 pm19 an19 cd19 ct19), sl19⟩) (c19 : PySem.W.codeIn K cd19 "is_free" = true) (k19 : PySem.W.keepIn K (.ref f19) = true)
    (a20 : PySem.W.nsIn K mainGlobals "free_hands" = some (some (.ref f20))) (l20 : K.lookup f20 = some ⟨oc20, od20, .func (PySem.W.fnOf "free_hands" "free_hands" (defArgs s_free_hands) (defBody s_free_hands) (defScope s_free_hands) .none kV20 dc20 pm20 an20 cd20 ct20), sl20⟩) (c20 : PySem.W.codeIn K cd20 "free_hands" = true) (k20 : PySem.W.keepIn K (.ref f20) = true)
    (a21 : PySem.W.nsIn K mainGlobals "is_cut" = some (some (.ref f21))) (l21 : K.lookup f21 = some ⟨oc21, od21, .func (PySem.W.fnOf "is_cut" "is_cut" (defArgs s_is_cut) (defBody s_is_cut) (defScope s_is_cut) .none kV21 dc21 pm21 an21 cd21 ct21), sl21⟩) (c21 : PySem.W.codeIn K cd21 "is_cut" = true) (k21 : PySem.W.keepIn K (.ref f21) = true)
    (a22 : PySem.W.nsIn K mainGlobals "least_cut" = some (some (.ref f22))) (l22 : K.lookup f22 = some ⟨oc22, od22, .func (PySem.W.fnOf "least_cut" "least_cut" (defArgs s_least_cut) (defBody s_least_cut) (defScope s_least_cut) .none kV22 dc22 pm22 an22 cd22 ct22), sl22⟩) (c22 : PySem.W.codeIn K cd22 "least_cut" = true) (k22 : PySem.W.keepIn K (.ref f22) = true)
    (a23 : PySem.W.nsIn K mainGlobals "greatest_cut" = some (some (.ref f23))) (l23 : K.lookup f23 = some ⟨oc23, od23, .func (PySem.W.fnOf "greatest_cut" "greatest_cut" (defArgs s_greatest_cut) (defBody s_greatest_cut) (defScope s_greatest_cut) .none kV23 dc23 pm23 an23 cd23 ct23), sl23⟩) (c23 : PySem.W.codeIn K cd23 "greatest_cut" = true) (k23 : PySem.W.keepIn K (.ref f23) = true)
    (a24 : PySem.W.nsIn K mainGlobals "keeps" = some (some (.ref f24))) (l24 : K.lookup f24 = some ⟨oc24, od24, .func (PySem.W.fnOf "keeps" "keeps" (defArgs s_keeps) (defBody s_keeps) (defScope s_keeps) .none kV24 dc24 pm24 an24 cd24 ct24), sl24⟩) (c24 : PySem.W.codeIn K cd24 "keeps" = true) (k24 : PySem.W.keepIn K (.ref f24) = true)
    (a25 : PySem.W.nsIn K mainGlobals "first_order" = some (some (.ref f25))) (l25 : K.lookup f25 = some ⟨oc25, od25, .func (PySem.W.fnOf "first_order" "first_order" (defArgs s_first_order) (defBody s_first_order) (defScope s_first_order) .none kV25 dc25 pm25 an25 cd25 ct25), sl25⟩) (c25 : PySem.W.codeIn K cd25 "first_order" = true) (k25 : PySem.W.keepIn K (.ref f25) = true)
    (a26 : PySem.W.nsIn K mainGlobals "longer_chains" = some (some (.ref f26))) (l26 : K.lookup f26 = some ⟨oc26, od26, .func (PySem.W.fnOf "longer_chains" "longer_chains" (defArgs s_longer_chains) (defBody s_longer_chains) (defScope s_longer_chains) .none kV26 dc26 pm26 an26 cd26 ct26), sl26⟩) (c26 : PySem.W.codeIn K cd26 "longer_chains" = true) (k26 : PySem.W.keepIn K (.ref f26) = true)
    (a27 : PySem.W.nsIn K mainGlobals "ring_from" = some (some (.ref f27))) (l27 : K.lookup f27 = some ⟨oc27, od27, .func (PySem.W.fnOf "ring_from" "ring_from" (defArgs s_ring_from) (defBody s_ring_from) (defScope s_ring_from) .none kV27 dc27 pm27 an27 cd27 ct27), sl27⟩) (c27 : PySem.W.codeIn K cd27 "ring_from" = true) (k27 : PySem.W.keepIn K (.ref f27) = true)
    (a28 : PySem.W.nsIn K mainGlobals "ring" = some (some (.ref f28))) (l28 : K.lookup f28 = some ⟨oc28, od28, .func (PySem.W.fnOf "ring" "ring" (defArgs s_ring) (defBody s_ring) (defScope s_ring) .none kV28 dc28 pm28 an28 cd28 ct28), sl28⟩) (c28 : PySem.W.codeIn K cd28 "ring" = true) (k28 : PySem.W.keepIn K (.ref f28) = true)
    (a29 : PySem.W.nsIn K mainGlobals "ways_to_cuts" = some (some (.ref f29))) (l29 : K.lookup f29 = some ⟨oc29, od29, .func (PySem.W.fnOf "ways_to_cuts" "ways_to_cuts" (defArgs s_ways_to_cuts) (defBody s_ways_to_cuts) (defScope s_ways_to_cuts) .none kV29 dc29 pm29 an29 cd29 ct29), sl29⟩) (c29 : PySem.W.codeIn K cd29 "ways_to_cuts" = true) (k29 : PySem.W.keepIn K (.ref f29) = true)
    {tk30 : Tok} {T30 : Addr} {tc30 : Value} {td30 : Option Addr} {tn30 : Nat} {tsl30 : Array (Option Value)} (a30 : PySem.W.nsIn K mainGlobals "how_many_cuts" = some (some (.ref f30))) (l30 : K.lookup f30 = some ⟨oc30, od30, .func (PySem.W.fnOf "how_many_cuts" "how_many_cuts" (defArgs s_how_many_cuts) (defBody s_how_many_cuts) (defScope s_how_many_cuts) (.ref T30) kV30 dc30 pm30 an30 cd30 ct30), sl30⟩) (c30 : PySem.W.codeIn K cd30 "how_many_cuts" = true) (k30 : PySem.W.keepIn K (.ref f30) = true) (d30 : K.lookup T30 = some ⟨tc30, td30, .seq #[.int 2000 tk30] tn30, tsl30⟩)
    {tk31 : Tok} {T31 : Addr} {tc31 : Value} {td31 : Option Addr} {tn31 : Nat} {tsl31 : Array (Option Value)} (a31 : PySem.W.nsIn K mainGlobals "how_many_orders" = some (some (.ref f31))) (l31 : K.lookup f31 = some ⟨oc31, od31, .func (PySem.W.fnOf "how_many_orders" "how_many_orders" (defArgs s_how_many_orders) (defBody s_how_many_orders) (defScope s_how_many_orders) (.ref T31) kV31 dc31 pm31 an31 cd31 ct31), sl31⟩) (c31 : PySem.W.codeIn K cd31 "how_many_orders" = true) (k31 : PySem.W.keepIn K (.ref f31) = true) (d31 : K.lookup T31 = some ⟨tc31, td31, .seq #[.int 2000 tk31] tn31, tsl31⟩)
    (a32 : PySem.W.nsIn K mainGlobals "_law_about" = some (some (.ref f32))) (l32 : K.lookup f32 = some ⟨oc32, od32, .func (PySem.W.fnOf "_law_about" "_law_about" (defArgs s_Labout) (defBody s_Labout) (defScope s_Labout) .none kV32 dc32 pm32 an32 cd32 ct32), sl32⟩) (c32 : PySem.W.codeIn K cd32 "_law_about" = true) (k32 : PySem.W.keepIn K (.ref f32) = true)
    (a33 : PySem.W.nsIn K mainGlobals "_law_left" = some (some (.ref f33))) (l33 : K.lookup f33 = some ⟨oc33, od33, .func (PySem.W.fnOf "_law_left" "_law_left" (defArgs s_Lleft) (defBody s_Lleft) (defScope s_Lleft) .none kV33 dc33 pm33 an33 cd33 ct33), sl33⟩) (c33 : PySem.W.codeIn K cd33 "_law_left" = true) (k33 : PySem.W.keepIn K (.ref f33) = true)
    (a34 : PySem.W.nsIn K mainGlobals "_law_counts_alike" = some (some (.ref f34))) (l34 : K.lookup f34 = some ⟨oc34, od34, .func (PySem.W.fnOf "_law_counts_alike" "_law_counts_alike" (defArgs s_Lcounts_alike) (defBody s_Lcounts_alike) (defScope s_Lcounts_alike) .none kV34 dc34 pm34 an34 cd34 ct34), sl34⟩) (c34 : PySem.W.codeIn K cd34 "_law_counts_alike" = true) (k34 : PySem.W.keepIn K (.ref f34) = true)
    (a35 : PySem.W.nsIn K mainGlobals "_law_cuts_alike" = some (some (.ref f35))) (l35 : K.lookup f35 = some ⟨oc35, od35, .func (PySem.W.fnOf "_law_cuts_alike" "_law_cuts_alike" (defArgs s_Lcuts_alike) (defBody s_Lcuts_alike) (defScope s_Lcuts_alike) .none kV35 dc35 pm35 an35 cd35 ct35), sl35⟩) (c35 : PySem.W.codeIn K cd35 "_law_cuts_alike" = true) (k35 : PySem.W.keepIn K (.ref f35) = true)
    (a36 : PySem.W.nsIn K mainGlobals "law" = some (some (.ref f36))) (l36 : K.lookup f36 = some ⟨oc36, od36, .func (PySem.W.fnOf "law" "law" (defArgs s_law) (defBody s_law) (defScope s_law) .none kV36 dc36 pm36 an36 cd36 ct36), sl36⟩) (c36 : PySem.W.codeIn K cd36 "law" = true) (k36 : PySem.W.keepIn K (.ref f36) = true)
    (xa_TooMany : PySem.W.nsIn K mainGlobals "TooMany" = some (some (.ref C_TooMany)))
    (xcl_TooMany : (PySem.W.clsIn K C_TooMany).isSome = true)
    (xty_TooMany : PySem.W.typeIn K (.ref C_TooMany) = some (.type "type"))
    (xbs_TooMany : PySem.W.subIn K (.ref C_TooMany) (.type "BaseException") = some true)
    (xcg : PySem.W.specialIn K (.builtin "object.__class__") "__get__" = some (some (.builtin "getset_descriptor.__get__")))
    (xct : PySem.W.takesIn K (.builtin "object.__class__") = some true)
    (xga_TooMany : PySem.W.findIn K (.ref C_TooMany) "__getattribute__" = some (some (.builtin "BaseException.__getattribute__")))
    (xgk_TooMany : PySem.W.findIn K (.ref C_TooMany) "__getattr__" = some none)
    (xmB_TooMany : PySem.W.mroIn K C_TooMany (.type "BaseException") = some true)
    (xca_TooMany : PySem.W.findIn K (.ref C_TooMany) "__class__" = some (some (.builtin "object.__class__")))
    (xmo_TooMany : PySem.W.mroIn K C_TooMany (.type "object") = some true)
    (xve_TooMany : PySem.W.subIn K (.ref C_TooMany) (.type "ValueError") = some true)
    (xex_TooMany : PySem.W.excIn K C_TooMany [.type "ValueError", .type "Exception", .type "BaseException", .type "object"] "ValueError.__new__" = true)
    (z_ValueError : PySem.W.nsIn K mainGlobals "ValueError" = some none) (z_all : PySem.W.nsIn K mainGlobals "all" = some none) (z_bool : PySem.W.nsIn K mainGlobals "bool" = some none) (z_dict : PySem.W.nsIn K mainGlobals "dict" = some none) (z_int : PySem.W.nsIn K mainGlobals "int" = some none) (z_isinstance : PySem.W.nsIn K mainGlobals "isinstance" = some none) (z_len : PySem.W.nsIn K mainGlobals "len" = some none) (z_list : PySem.W.nsIn K mainGlobals "list" = some none) (z_max : PySem.W.nsIn K mainGlobals "max" = some none) (z_min : PySem.W.nsIn K mainGlobals "min" = some none) (z_range : PySem.W.nsIn K mainGlobals "range" = some none) (z_sum : PySem.W.nsIn K mainGlobals "sum" = some none) (z_tuple : PySem.W.nsIn K mainGlobals "tuple" = some none) (z_zip : PySem.W.nsIn K mainGlobals "zip" = some none) :
    ∃ fd : FuncData, (∀ (s : Shared) (v : Value), BindsTo s fd ⟨[v], []⟩ [("script", v)]) ∧ ∀ base : Heap, K.In base → base.Ns mainGlobals mg → FnOk l.prog w K mg base CX0 7 fa fd ["script"] (spLaw K) := by
  have e := hfa.symm.trans (PySem.W.mg_of X G a36)
  cases e
  have Bt : Blt mg := ⟨PySem.W.mg_none_of X G z_ValueError, PySem.W.mg_none_of X G z_all, PySem.W.mg_none_of X G z_bool, PySem.W.mg_none_of X G z_dict, PySem.W.mg_none_of X G z_int, PySem.W.mg_none_of X G z_isinstance, PySem.W.mg_none_of X G z_len, PySem.W.mg_none_of X G z_list, PySem.W.mg_none_of X G z_max, PySem.W.mg_none_of X G z_min, PySem.W.mg_none_of X G z_range, PySem.W.mg_none_of X G z_sum, PySem.W.mg_none_of X G z_tuple, PySem.W.mg_none_of X G z_zip⟩
  have X_TooMany : Xr K mg C_TooMany "TooMany" := ⟨PySem.W.mg_of X G xa_TooMany, ⟨xcl_TooMany, xty_TooMany, xbs_TooMany⟩, ⟨xga_TooMany, xgk_TooMany, xmB_TooMany, xcl_TooMany, xca_TooMany, xcg, xct, xmo_TooMany⟩, xex_TooMany, xve_TooMany⟩
  have F0 := fun_mk (st := s_Lbag) l0 c0 k0
  have F1 := fun_mk (st := s_Lstir) l1 c1 k1
  have F2 := fun_mk (st := s_Ldraw) l2 c2 k2
  have F3 := fun_mk (st := s_Lcounts) l3 c3 k3
  have F4 := fun_mk (st := s_Lorder) l4 c4 k4
  have F5 := fun_mk (st := s_Lspots) l5 c5 k5
  have F6 := fun_mk (st := s_Lnote) l6 c6 k6
  have F7 := fun_mk (st := s_Lrecord) l7 c7 k7
  have F8 := fun_mk (st := s_Lkept) l8 c8 k8
  have F9 := fun_mk (st := s_is_whole) l9 c9 k9
  have F10 := fun_mk (st := s_is_below) l10 c10 k10
  have F11 := fun_mk (st := s_is_note) l11 c11 k11
  have F12 := fun_mk (st := s_is_between) l12 c12 k12
  have F13 := fun_mk (st := s_check_notes) l13 c13 k13
  have F14 := fun_mk (st := s_check_done) l14 c14 k14
  have F15 := fun_mk (st := s_check_order) l15 c15 k15
  have F16 := fun_mk (st := s_has) l16 c16 k16
  have F17 := fun_mk (st := s_broken_notes) l17 c17 k17
  have F18 := fun_mk (st := s_firsts_of) l18 c18 k18
  have F19 := fun_mk (st := s_is_free) l19 c19 k19
  have F20 := fun_mk (st := s_free_hands) l20 c20 k20
  have F21 := fun_mk (st := s_is_cut) l21 c21 k21
  have F22 := fun_mk (st := s_least_cut) l22 c22 k22
  have F23 := fun_mk (st := s_greatest_cut) l23 c23 k23
  have F24 := fun_mk (st := s_keeps) l24 c24 k24
  have F25 := fun_mk (st := s_first_order) l25 c25 k25
  have F26 := fun_mk (st := s_longer_chains) l26 c26 k26
  have F27 := fun_mk (st := s_ring_from) l27 c27 k27
  have F28 := fun_mk (st := s_ring) l28 c28 k28
  have F29 := fun_mk (st := s_ways_to_cuts) l29 c29 k29
  have F30 : FunD K "how_many_cuts" "how_many_cuts" s_how_many_cuts [.int 2000 tk30] f30 _ := ⟨⟨_, _, _, _, _, _, _, _, _, _, _, _, _, _, rfl, l30, c30, d30⟩, k30⟩
  have F31 : FunD K "how_many_orders" "how_many_orders" s_how_many_orders [.int 2000 tk31] f31 _ := ⟨⟨_, _, _, _, _, _, _, _, _, _, _, _, _, _, rfl, l31, c31, d31⟩, k31⟩
  have F32 := fun_mk (st := s_Labout) l32 c32 k32
  have F33 := fun_mk (st := s_Lleft) l33 c33 k33
  have F34 := fun_mk (st := s_Lcounts_alike) l34 c34 k34
  have F35 := fun_mk (st := s_Lcuts_alike) l35 c35 k35
  have F36 := fun_mk (st := s_law) l36 c36 k36
  refine ⟨PySem.W.fnOf "law" "law" (defArgs s_law) (defBody s_law) (defScope s_law) .none kV36 dc36 pm36 an36 cd36 ct36, fun s v => .of_eq rfl, fun base _ _ => ?_⟩
  have A0 : FnAt l.prog w K mg base 1 "_law_bag" ["script"] (spBag K) := ⟨f0, _, ok_bag F0 Bt, PySem.W.mg_of X G a0, k0, F0.binds (ps := ["script"]) bi_Lbag⟩
  have A1 : FnAt l.prog w K mg base 1 "_law_stir" ["number", "place"] (spStir K) := ⟨f1, _, ok_stir F1 , PySem.W.mg_of X G a1, k1, F1.binds (ps := ["number", "place"]) bi_Lstir⟩
  have A2 : FnAt l.prog w K mg base 2 "_law_draw" ["bag", "many"] (spDraw K) := ⟨f2, _, ok_draw F2 A1 Bt, PySem.W.mg_of X G a2, k2, F2.binds (ps := ["bag", "many"]) bi_Ldraw⟩
  have A3 : FnAt l.prog w K mg base 3 "_law_counts" ["bag", "great"] (spCounts K) := ⟨f3, _, ok_counts F3 A2 Bt, PySem.W.mg_of X G a3, k3, F3.binds (ps := ["bag", "great"]) bi_Lcounts⟩
  have A4 : FnAt l.prog w K mg base 3 "_law_order" ["bag", "counts"] (spOrder K) := ⟨f4, _, ok_order F4 A2 Bt, PySem.W.mg_of X G a4, k4, F4.binds (ps := ["bag", "counts"]) bi_Lorder⟩
  have A5 : FnAt l.prog w K mg base 1 "_law_spots" ["order"] (spSpots K) := ⟨f5, _, ok_spots F5 Bt, PySem.W.mg_of X G a5, k5, F5.binds (ps := ["order"]) bi_Lspots⟩
  have A6 : FnAt l.prog w K mg base 3 "_law_note" ["bag", "counts"] (spNote K) := ⟨f6, _, ok_note F6 A2 Bt, PySem.W.mg_of X G a6, k6, F6.binds (ps := ["bag", "counts"]) bi_Lnote⟩
  have A7 : FnAt l.prog w K mg base 4 "_law_record" ["bag", "great"] (spRecordD K) := ⟨f7, _, ok_recordD F7 A2 A3 A4 A5 A6 Bt, PySem.W.mg_of X G a7, k7, F7.binds (ps := ["bag", "great"]) bi_Lrecord⟩
  have A8 : FnAt l.prog w K mg base 3 "_law_kept" ["bag", "record"] (spKept K) := ⟨f8, _, ok_kept F8 A2 Bt, PySem.W.mg_of X G a8, k8, F8.binds (ps := ["bag", "record"]) bi_Lkept⟩
  have A9 : FnAt l.prog w K mg base 1 "is_whole" ["value"] (spWh K) := ⟨f9, _, ok_is_whole F9 Bt, PySem.W.mg_of X G a9, k9, F9.binds (ps := ["value"]) bi_is_whole⟩
  have A10 : FnAt l.prog w K mg base 2 "is_below" ["value", "count"] (spBelow K) := ⟨f10, _, ok_is_below F10 A9, PySem.W.mg_of X G a10, k10, F10.binds (ps := ["value", "count"]) bi_is_below⟩
  have A11 : FnAt l.prog w K mg base 2 "is_note" ["value"] (spIsNote K) := ⟨f11, _, ok_is_note F11 A9 Bt, PySem.W.mg_of X G a11, k11, F11.binds (ps := ["value"]) bi_is_note⟩
  have A12 : FnAt l.prog w K mg base 3 "is_between" ["counts", "note"] (spBetween K) := ⟨f12, _, ok_is_between F12 A10 A11 Bt, PySem.W.mg_of X G a12, k12, F12.binds (ps := ["counts", "note"]) bi_is_between⟩
  have A13 : FnAt l.prog w K mg base 4 "check_notes" ["record"] (spCheckN K) := ⟨f13, _, ok_check_notes F13 A12 Bt, PySem.W.mg_of X G a13, k13, F13.binds (ps := ["record"]) bi_check_notes⟩
  have A14 : FnAt l.prog w K mg base 3 "check_done" ["record", "done"] (spCheckD K) := ⟨f14, _, ok_check_done F14 A10 Bt, PySem.W.mg_of X G a14, k14, F14.binds (ps := ["record", "done"]) bi_check_done⟩
  have A15 : FnAt l.prog w K mg base 3 "check_order" ["record", "order"] (spCheckO K) := ⟨f15, _, ok_check_order F15 A10 Bt, PySem.W.mg_of X G a15, k15, F15.binds (ps := ["record", "order"]) bi_check_order⟩
  have A16 : FnAt l.prog w K mg base 1 "has" ["done", "touch"] (spHas K) := ⟨f16, _, ok_has F16 , PySem.W.mg_of X G a16, k16, F16.binds (ps := ["done", "touch"]) bi_has⟩
  have A17 : FnAt l.prog w K mg base 2 "broken_notes" ["record", "done"] (spBroken K) := ⟨f17, _, ok_broken F17 A16 Bt, PySem.W.mg_of X G a17, k17, F17.binds (ps := ["record", "done"]) bi_broken_notes⟩
  have A18 : FnAt l.prog w K mg base 1 "firsts_of" ["record"] (spFirsts K) := ⟨f18, _, ok_firsts F18 , PySem.W.mg_of X G a18, k18, F18.binds (ps := ["record"]) bi_firsts_of⟩
  have A19 : FnAt l.prog w K mg base 2 "is_free" ["counts", "firsts", "done", "hand"] (spFree K) := ⟨f19, _, ok_is_free F19 A16 Bt, PySem.W.mg_of X G a19, k19, F19.binds (ps := ["counts", "firsts", "done", "hand"]) bi_is_free⟩
  have A20 : FnAt l.prog w K mg base 3 "free_hands" ["counts", "firsts", "done"] (spFreeH K) := ⟨f20, _, ok_free_hands F20 A19 Bt, PySem.W.mg_of X G a20, k20, F20.binds (ps := ["counts", "firsts", "done"]) bi_free_hands⟩
  have A21 : FnAt l.prog w K mg base 5 "is_cut" ["record", "cut"] (spIsCut K) := ⟨f21, _, ok_is_cut F21 A13 A14 A17 Bt, PySem.W.mg_of X G a21, k21, F21.binds (ps := ["record", "cut"]) bi_is_cut⟩
  have A22 : FnAt l.prog w K mg base 5 "least_cut" ["record", "some"] (spLeast K) := ⟨f22, _, ok_least F22 A13 A14 A17 Bt, PySem.W.mg_of X G a22, k22, F22.binds (ps := ["record", "some"]) bi_least_cut⟩
  have A23 : FnAt l.prog w K mg base 5 "greatest_cut" ["record", "some"] (spGreatest K) := ⟨f23, _, ok_greatest F23 A13 A14 A17 Bt, PySem.W.mg_of X G a23, k23, F23.binds (ps := ["record", "some"]) bi_greatest_cut⟩
  have A24 : FnAt l.prog w K mg base 5 "keeps" ["record", "order"] (spKeeps K) := ⟨f24, _, ok_keeps F24 A13 A15 A18 A19 Bt, PySem.W.mg_of X G a24, k24, F24.binds (ps := ["record", "order"]) bi_keeps⟩
  have A25 : FnAt l.prog w K mg base 5 "first_order" ["record"] (spFirst K) := ⟨f25, _, ok_first_order F25 A13 A18 A20 Bt, PySem.W.mg_of X G a25, k25, F25.binds (ps := ["record"]) bi_first_order⟩
  have A26 : FnAt l.prog w K mg base 1 "longer_chains" ["record", "chains"] (spLonger K) := ⟨f26, _, ok_longer F26 , PySem.W.mg_of X G a26, k26, F26.binds (ps := ["record", "chains"]) bi_longer_chains⟩
  have A27 : FnAt l.prog w K mg base 2 "ring_from" ["record", "start"] (spRingFrom K) := ⟨f27, _, ok_ringFrom F27 A26 Bt, PySem.W.mg_of X G a27, k27, F27.binds (ps := ["record", "start"]) bi_ring_from⟩
  have A28 : FnAt l.prog w K mg base 5 "ring" ["record"] (spRing3 K) := ⟨f28, _, ok_ring3 F28 A13 A27 Bt, PySem.W.mg_of X G a28, k28, F28.binds (ps := ["record"]) bi_ring⟩
  have A29 : FnAtX l.prog w K mg base 4 "ways_to_cuts" ["record", "most"] (spWaysG C_TooMany K) := ⟨f29, _, ok_waysG F29 A18 A20 Bt X_TooMany, PySem.W.mg_of X G a29, k29, F29.binds (ps := ["record", "most"]) bi_ways_to_cuts⟩
  have G30 := ok_hmc3 F30 A13 A29 Bt
  have A30 : FnAtX l.prog w K mg base 5 "how_many_cuts" ["record", "most"] (spHmc3 C_TooMany K) := ⟨f30, _, G30, PySem.W.mg_of X G a30, k30, bd0_how_many_cuts d30⟩
  have A30_1 : FnAtD l.prog w K mg base 5 "how_many_cuts" ["record", "most"] [.int 2000] (spHmc3 C_TooMany K) := ⟨f30, _, _, G30, PySem.W.mg_of X G a30, k30, bd1_how_many_cuts d30, .cons ⟨_, rfl⟩ .nil⟩
  have A30_K : FnAtK l.prog w K mg base 5 "how_many_cuts" ["record", "most"] "most" (spHmc3 C_TooMany K) := ⟨f30, _, G30, PySem.W.mg_of X G a30, k30, bdK_how_many_cuts d30⟩
  have G31 := ok_hmo3 F31 A13 A29 Bt
  have A31 : FnAtX l.prog w K mg base 5 "how_many_orders" ["record", "most"] (spHmo3 C_TooMany K) := ⟨f31, _, G31, PySem.W.mg_of X G a31, k31, bd0_how_many_orders d31⟩
  have A31_1 : FnAtD l.prog w K mg base 5 "how_many_orders" ["record", "most"] [.int 2000] (spHmo3 C_TooMany K) := ⟨f31, _, _, G31, PySem.W.mg_of X G a31, k31, bd1_how_many_orders d31, .cons ⟨_, rfl⟩ .nil⟩
  have A31_K : FnAtK l.prog w K mg base 5 "how_many_orders" ["record", "most"] "most" (spHmo3 C_TooMany K) := ⟨f31, _, G31, PySem.W.mg_of X G a31, k31, bdK_how_many_orders d31⟩
  have A32 : FnAt l.prog w K mg base 1 "_law_about" ["record"] (spAbout K) := ⟨f32, _, ok_about F32 Bt, PySem.W.mg_of X G a32, k32, F32.binds (ps := ["record"]) bi_Labout⟩
  have A33 : FnAt l.prog w K mg base 1 "_law_left" ["record", "some"] (spLeft K) := ⟨f33, _, ok_left F33 Bt, PySem.W.mg_of X G a33, k33, F33.binds (ps := ["record", "some"]) bi_Lleft⟩
  have A34 : FnAt l.prog w K mg base 6 "_law_counts_alike" ["record", "turned", "many"] (spCntA C_TooMany K) := ⟨f34, _, ok_cntA F34 A31_K A30_K Bt, PySem.W.mg_of X G a34, k34, F34.binds (ps := ["record", "turned", "many"]) bi_Lcounts_alike⟩
  have A35 : FnAt l.prog w K mg base 6 "_law_cuts_alike" ["record", "turned", "one", "other"] (spCutA K) := ⟨f35, _, ok_cutA F35 A33 A21 A22 A23 Bt, PySem.W.mg_of X G a35, k35, F35.binds (ps := ["record", "turned", "one", "other"]) bi_Lcuts_alike⟩
  exact ok_law F36 A0 A2 A7 A32 A35 A4 A8 A24 A25 A28 A34 Bt
theorem walk {l : PySem.W.OpenLaw} {q : Program} {loose : List Str} {XP : (Str → Option Value) → Heap → Prop} {YP : World → Heap → Prop} {d : DefRec} {K : Params → PySem.W.Frag} (hn : l.most = some 63) (hdf : d.params.defaults = [])
    (hY : ∀ (w : World) (h : Heap), YP w h → (K w.params).In h)
    (F : ∀ (w : World) (mg : Str → Option Value) (fa : Addr) (h : Heap), (K w.params).In h → h.Ns mainGlobals mg → mg d.name = some (.ref fa) →
      ∃ fd : FuncData, (∀ (s : Shared) (u : Value), BindsTo s fd ⟨[u], []⟩ [("script", u)]) ∧ ∀ base : Heap, (K w.params).In base → base.Ns mainGlobals mg → FnOk l.prog w (K w.params) mg base CX0 7 fa fd ["script"] (spLaw (K w.params))) :
    PySem.W.WalkO q loose XP YP l.row.toRowW d [] (fun f vs => PySem.call f vs) :=
  L2.walk_of (n := 63) (k := 7) (x := "script") (CX := fun _ => CX0) (sp := fun w => spLaw (K w.params)) hn (by decide) hdf ⟨rfl, by decide, by decide⟩ hY F (fun _ _ a ns hl _ hS => ⟨a, ns, rfl, hS, hl, fun _ => rfl⟩) fun _ _ _ _ _ z => z
end Prf
namespace PySem.W.Fast
def tw12576179261454262669 := ()
def tw10083906270483810651 := ()
def tw1026281571545777585 := ()
def tw5741770566945900328 := ()
def tw5933424741836496530 := ()
def tw7039587841405860866 := ()
def tw10560546876744963613 := ()
def tw2457994494538531206 := ()
def tw6814968867872689549 := ()
def tw5762373839436196468 := ()
def tw11885853071130519656 := ()
def tw6963731044665495859 := ()
def tw11624890963790864629 := ()
def tw2082831508962552100 := ()
def tw9949512062840541020 := ()
def tw11673919110831900112 := ()
def tw7524096447152285583 := ()
def tw8943463489648064433 := ()
def tw3815583315568728424 := ()
def tw1983126668068361562 := ()
def tw7557654627946122058 := ()
def tw6206150519634583227 := ()
def tw4209782362288223833 := ()
def tw7638557251062836887 := ()
def tw14912921903413990784 := ()
def tw11654208649582452076 := ()
def tw833342061694091868 := ()
def tw7223257203087236211 := ()
def tw2453663616595613061 := ()
def tw5950516804108099261 := ()
def tw4235882816861350264 := ()
def tw11237867791903822483 := ()
def tw17620867860090360472 := ()
def tw5808172681700291717 := ()
def tw13751957363273607744 := ()
def tw17658748352548650304 := ()
def tw13502522115654986214 := ()
def tw2058705772727797190 := ()
def tw3558104523619478453 := ()
def tw16165055583724032434 := ()
def tw16537889737001125277 := ()
def tw84112230165208965 := ()
def tw1305731071643823739 := ()
def tw12530751532427486800 := ()
def tw17375514658963714119 := ()
def tw18369347373443140343 := ()
def tw14834103324304523474 := ()
def tw17486563395708429961 := ()
def tw1274685838305175370 := ()
def tw5260744081060651542 := ()
def tw15438537608822636354 := ()
def tw10014828436102409551 := ()
def tw5632119197426914641 := ()
def tw1088453228558536171 := ()
def tw17455273106653864859 := ()
def tw11974347906937923632 := ()
def tw6633442202471060666 := ()
def tw13807960789362297145 := ()
def tw13219972694906024783 := ()
def tw16269376269932506255 := ()
def tw642125269776274371 := ()
def tw3185883925631434730 := ()
def tw288190264403986265 := ()
def tw11295470376104950749 := ()
def tw5437936566312126685 := ()
def tw17720365514066860301 := ()
def tw5725685054399979901 := ()
def tw4343039166453338550 := ()
def tw15379061171292725956 := ()
def tw12158835013158672491 := ()
def tw16493146233034759520 := ()
def tw18083257472902483771 := ()
def tw18149597892233952367 := ()
def tw8240874029284822343 := ()
def tw10442379691523921000 := ()
def tw1052351788352101154 := ()
def tw5215187682189966934 := ()
def tw15553076873484655907 := ()
def tw4064254763079954230 := ()
def tw10525903388028428604 := ()
def tw13553950062612569806 := ()
def tw7359947405169691763 := ()
def tw12669583861161363585 := ()
def tw6018480822752032201 := ()
def tw7978525303745782178 := ()
def tw13747661813789059351 := ()
def tw165128130697071782 := ()
def tw10444696151676829533 := ()
def tw6141906945937789711 := ()
def tw2951534510287234267 := ()
def tw10521428081005676768 := ()
def tw8867853040091036048 := ()
def tw10352910388292543066 := ()
def tw6895233413979968199 := ()
def tw3137307523827921907 := ()
def tw2756138954735030688 := ()
def tw12420497702908369692 := ()
def tw16380331065702194780 := ()
def tw17075182970827501224 := ()
def tw3215486013191654275 := ()
def tw17441876828562531629 := ()
def tw1575753312899416301 := ()
def tw15749495628335541660 := ()
def tw18093379419736170142 := ()
def tw13566456998037363880 := ()
def tw275313484763182511 := ()
def tw3942995907324677830 := ()
def tw10231074296506523754 := ()
def tw3067776105896683688 := ()
def tw17465978660520245227 := ()
def tw11035755492423428039 := ()
def tw8090652689702966815 := ()
def tw492148740691594041 := ()
def tw2741060660343078320 := ()
def tw17462530320506684906 := ()
def tw11276763953641876540 := ()
def tw14655759106138185692 := ()
def tw17924694649024681530 := ()
def tw5582209567711614254 := ()
def tw9177203865384649749 := ()
def tw14176719921513860226 := ()
def tw11139513278353317825 := ()
def tw10979119415248398825 := ()
def tw13916877317007068857 := ()
def tw15217447076034540503 := ()
def tw8197503724031807574 := ()
def tw7565816653302097390 := ()
def tw14925554104102288304 := ()
def tw15750076931083600081 := ()
def tw11665617785009214076 := ()
def tw14656552854534515992 := ()
def tw8065794604151599452 := ()
def tw14121078937663393190 := ()
def tw2670234672611732482 := ()
def tw429872058221313507 := ()
def tw12467145765227006263 := ()
def tw17937880448289056797 := ()
def tw5073374063987785532 := ()
def tw16803458413887422769 := ()
def tw13381083065934190523 := ()
def tw3893382110925910422 := ()
def tw9151267722167730142 := ()
def tw10114603525974387736 := ()
def tw10202964168356281473 := ()
def tw16741844210043118600 := ()
def tw5459314850913353673 := ()
def tw1879377255900562202 := ()
def tw15550586353663804258 := ()
def tw1923081214046418971 := ()
def tw13250814413573213761 := ()
def tw8406340852586187731 := ()
def tw3389501107047129931 := ()
def tw8233397603931927148 := ()
def tw1739089888663118640 := ()
def tw17116429840043352730 := ()
def tw8704410384891661418 := ()
def tw11387685765328104486 := ()
def tw9793894922791185113 := ()
def tw10993719396592908741 := ()
def tw12562826950144272168 := ()
def tw18234336438425342455 := ()
def tw17473181217131194317 := ()
def tw4136330897427761617 := ()
def tw11169320270989875670 := ()
def tw6206898744106511289 := ()
def tw15929049548304265070 := ()
def tw9543044158634810249 := ()
def tw10686569004768687045 := ()
def tw9901332124980595897 := ()
def tw17536833754320218635 := ()
def tw4807616225051802107 := ()
def tw6946932825466132755 := ()
def tw16116890948709138448 := ()
def tw4733451628614880605 := ()
def tw9268224332247508740 := ()
def tw1475263774138464380 := ()
def tw1530819435571847217 := ()
def tw15190148081238495560 := ()
def tw6492108894963986564 := ()
def tw5592358286237263590 := ()
def tw16543822264177840453 := ()
def tw16780876282253859713 := ()
def tw4254019855744796795 := ()
def tw2970464826326883227 := ()
def tw15147046726227570670 := ()
def tw5551130527978170838 := ()
def tw3012584302396069537 := ()
def tw8367748321382838297 := ()
def tw3979546414441299437 := ()
def tw4282450255349130688 := ()
def tw151450356797239081 := ()
def tw12510924328375656417 := ()
def tw8137302116954249277 := ()
def tw9256999157649644941 := ()
def tw3633341697187083868 := ()
def tw1080575421843158037 := ()
def tw14466938708438324598 := ()
def tw1589868638509762175 := ()
def tw5500654400186938589 := ()
def tw17440881889870734664 := ()
def tw138855483199649581 := ()
def tw10267637003522043209 := ()
def tw11523073523388383330 := ()
def tw8919996912218192283 := ()
def tw13974591370604033056 := ()
def tw453288688574508786 := ()
def tw11140130457504654337 := ()
def tw17648339775741008819 := ()
def tw10778451222203250028 := ()
def tw14719989091001433004 := ()
def tw5636139281146251120 := ()
def tw13109213929659681332 := ()
def tw8177673208716998221 := ()
def tw7145175945975892002 := ()
def tw6957798262907486998 := ()
def tw9561633327994583410 := ()
def tw11300113698084552989 := ()
def tw15644692575669626856 := ()
def tw12138164027217934735 := ()
def tw11910645975011651606 := ()
def tw4038215367866023885 := ()
def tw6910233014110870225 := ()
def tw15998573139816571336 := ()
def tw9804745940120329528 := ()
def tw7235541791751321717 := ()
def tw13031970964606253653 := ()
def tw18434399233727555737 := ()
def tw17411852000776702020 := ()
def tw18214253265107821649 := ()
def tw9992601208897203367 := ()
def tw16582159745936019510 := ()
def tw7788804200224412444 := ()
def tw12437371496069964362 := ()
def tw12327488746259663950 := ()
def tw14322411138420018140 := ()
def tw9319606409924293321 := ()
def tw15368118098990613985 := ()
def tw18389251377443571670 := ()
def tw3552948046103727860 := ()
def tw2965504840576693503 := ()
def tw5203441339560212704 := ()
def tw15724073091699804484 := ()
def tw4603746533165139999 := ()
def tw13364124586986964311 := ()
def tw17586300564635431363 := ()
def tw15738723506386378144 := ()
def tw3658194571852520286 := ()
def tw10846672549540434965 := ()
def tw7350032375996051234 := ()
def tw15747702078510735834 := ()
def tw2745867868726803383 := ()
def tw10972034306920115475 := ()
def tw340674003898002877 := ()
def tw17687745968309833773 := ()
def tw1975262116154847940 := ()
def tw18131721965685425882 := ()
def tw2113223609226719977 := ()
def tw18128959294013617366 := ()
def tw17438871777119261898 := ()
def tw12246052484423066312 := ()
def tw13199940550997836410 := ()
def tw16152231726694043211 := ()
def tw12500609823503604833 := ()
def tw11909596096449269631 := ()
def tw12050754017320977976 := ()
def tw1937082904212592592 := ()
def tw8952700831395730888 := ()
def tw17625070309167862073 := ()
def tw3845704756919834889 := ()
def tw11257651929980699365 := ()
def tw10196268324721080720 := ()
def tw2886741789596455016 := ()
def tw10024166974581186387 := ()
def tw13230547763612707349 := ()
def tw2959961972359061351 := ()
def tw192509089642726600 := ()
def tw12184864770771243430 := ()
def tw16595145558903878718 := ()
def tw4540818141398468218 := ()
def tw16817518796759945755 := ()
def tw13205612083610475338 := ()
def tw9617809780654167887 := ()
def tw3108624715553608796 := ()
def tw15281087995259722864 := ()
def tw10431641520170425950 := ()
def tw2101132558424338953 := ()
def tw10313705123847415401 := ()
end PySem.W.Fast
open PySem PySem.W PyProof.Rows
set_option maxRecDepth 100000 in
set_option maxHeartbeats 0 in
theorem PySem.Challenge.cw_fewnotes_k43_whole_records_turned_about_holds : PySem.Challenge.rw_fewnotes_k43_whole_records_turned_about.Holds := by
  w_on; o_law; k_head; (case hw => w_witness2)
  k_fill
  refine Prf.walk (l := PySem.Challenge.rw_fewnotes_k43_whole_records_turned_about) rfl rfl (fun w h Y => PySem.W.kIn_of Y) ?F
  case F =>
    intro w mg fa h KX G hmg
    replace hmg : mg (Str.ofString "law") = some (.ref fa) := hmg
    refine' Prf.all_mk KX G hmg ?a0 ?l0 ?c0 ?k0 ?a1 ?l1 ?c1 ?k1 ?a2 ?l2 ?c2 ?k2 ?a3 ?l3 ?c3 ?k3 ?a4 ?l4 ?c4 ?k4 ?a5 ?l5 ?c5 ?k5 ?a6 ?l6 ?c6 ?k6 ?a7 ?l7 ?c7 ?k7 ?a8 ?l8 ?c8 ?k8 ?a9 ?l9 ?c9 ?k9 ?a10 ?l10 ?c10 ?k10 ?a11 ?l11 ?c11 ?k11 ?a12 ?l12 ?c12 ?k12 ?a13 ?l13 ?c13 ?k13 ?a14 ?l14 ?c14 ?k14 ?a15 ?l15 ?c15 ?k15 ?a16 ?l16 ?c16 ?k16 ?a17 ?l17 ?c17 ?k17 ?a18 ?l18 ?c18 ?k18 ?a19 ?l19 ?c19 ?k19 ?a20 ?l20 ?c20 ?k20 ?a21 ?l21 ?c21 ?k21 ?a22 ?l22 ?c22 ?k22 ?a23 ?l23 ?c23 ?k23 ?a24 ?l24 ?c24 ?k24 ?a25 ?l25 ?c25 ?k25 ?a26 ?l26 ?c26 ?k26 ?a27 ?l27 ?c27 ?k27 ?a28 ?l28 ?c28 ?k28 ?a29 ?l29 ?c29 ?k29 ?a30 ?l30 ?c30 ?k30 ?d30 ?a31 ?l31 ?c31 ?k31 ?d31 ?a32 ?l32 ?c32 ?k32 ?a33 ?l33 ?c33 ?k33 ?a34 ?l34 ?c34 ?k34 ?a35 ?l35 ?c35 ?k35 ?a36 ?l36 ?c36 ?k36 ?xa_TooMany ?xcl_TooMany ?xty_TooMany ?xbs_TooMany ?xcg ?xct ?xga_TooMany ?xgk_TooMany ?xmB_TooMany ?xca_TooMany ?xmo_TooMany ?xve_TooMany ?xex_TooMany ?z_ValueError ?z_all ?z_bool ?z_dict ?z_int ?z_isinstance ?z_len ?z_list ?z_max ?z_min ?z_range ?z_sum ?z_tuple ?z_zip
    (case xa_TooMany => k_is)
    (case xcl_TooMany => rfl)
    (case xty_TooMany => k_is)
    (case xbs_TooMany => k_is)
    (case xcg => k_is)
    (case xct => k_is)
    (case xga_TooMany => k_is)
    (case xgk_TooMany => k_is)
    (case xmB_TooMany => k_is)
    (case xca_TooMany => k_is)
    (case xmo_TooMany => k_is)
    (case xve_TooMany => k_is)
    (case xex_TooMany => k_exc)
    (case a0 => k_is)
    (case l0 => k_is)
    (case c0 => k_is)
    (case k0 => k_is)
    (case a1 => k_is)
    (case l1 => k_is)
    (case c1 => k_is)
    (case k1 => k_is)
    (case a2 => k_is)
    (case l2 => k_is)
    (case c2 => k_is)
    (case k2 => k_is)
    (case a3 => k_is)
    (case l3 => k_is)
    (case c3 => k_is)
    (case k3 => k_is)
    (case a4 => k_is)
    (case l4 => k_is)
    (case c4 => k_is)
    (case k4 => k_is)
    (case a5 => k_is)
    (case l5 => k_is)
    (case c5 => k_is)
    (case k5 => k_is)
    (case a6 => k_is)
    (case l6 => k_is)
    (case c6 => k_is)
    (case k6 => k_is)
    (case a7 => k_is)
    (case l7 => k_is)
    (case c7 => k_is)
    (case k7 => k_is)
    (case a8 => k_is)
    (case l8 => k_is)
    (case c8 => k_is)
    (case k8 => k_is)
    (case a9 => k_is)
    (case l9 => k_is)
    (case c9 => k_is)
    (case k9 => k_is)
    (case a10 => k_is)
    (case l10 => k_is)
    (case c10 => k_is)
    (case k10 => k_is)
    (case a11 => k_is)
    (case l11 => k_is)
    (case c11 => k_is)
    (case k11 => k_is)
    (case a12 => k_is)
    (case l12 => k_is)
    (case c12 => k_is)
    (case k12 => k_is)
    (case a13 => k_is)
    (case l13 => k_is)
    (case c13 => k_is)
    (case k13 => k_is)
    (case a14 => k_is)
    (case l14 => k_is)
    (case c14 => k_is)
    (case k14 => k_is)
    (case a15 => k_is)
    (case l15 => k_is)
    (case c15 => k_is)
    (case k15 => k_is)
    (case a16 => k_is)
    (case l16 => k_is)
    (case c16 => k_is)
    (case k16 => k_is)
    (case a17 => k_is)
    (case l17 => k_is)
    (case c17 => k_is)
    (case k17 => k_is)
    (case a18 => k_is)
    (case l18 => k_is)
    (case c18 => k_is)
    (case k18 => k_is)
    (case a19 => k_is)
    (case l19 => k_is)
    (case c19 => k_is)
    (case k19 => k_is)
    (case a20 => k_is)
    (case l20 => k_is)
    (case c20 => k_is)
    (case k20 => k_is)
    (case a21 => k_is)
    (case l21 => k_is)
    (case c21 => k_is)
    (case k21 => k_is)
    (case a22 => k_is)
    (case l22 => k_is)
    (case c22 => k_is)
    (case k22 => k_is)
    (case a23 => k_is)
    (case l23 => k_is)
    (case c23 => k_is)
    (case k23 => k_is)
    (case a24 => k_is)
    (case l24 => k_is)
    (case c24 => k_is)
    (case k24 => k_is)
    (case a25 => k_is)
    (case l25 => k_is)
    (case c25 => k_is)
    (case k25 => k_is)
    (case a26 => k_is)
    (case l26 => k_is)
    (case c26 => k_is)
    (case k26 => k_is)
    (case a27 => k_is)
    (case l27 => k_is)
    (case c27 => k_is)
    (case k27 => k_is)
    (case a28 => k_is)
    (case l28 => k_is)
    (case c28 => k_is)
    (case k28 => k_is)
    (case a29 => k_is)
    (case l29 => k_is)
    (case c29 => k_is)
    (case k29 => k_is)
    (case a30 => k_is)
    (case l30 => k_is)
    (case c30 => k_is)
    (case k30 => k_is)
    (case d30 => k_is)
    (case a31 => k_is)
    (case l31 => k_is)
    (case c31 => k_is)
    (case k31 => k_is)
    (case d31 => k_is)
    (case a32 => k_is)
    (case l32 => k_is)
    (case c32 => k_is)
    (case k32 => k_is)
    (case a33 => k_is)
    (case l33 => k_is)
    (case c33 => k_is)
    (case k33 => k_is)
    (case a34 => k_is)
    (case l34 => k_is)
    (case c34 => k_is)
    (case k34 => k_is)
    (case a35 => k_is)
    (case l35 => k_is)
    (case c35 => k_is)
    (case k35 => k_is)
    (case a36 => k_is)
    (case l36 => k_is)
    (case c36 => k_is)
    (case k36 => k_is)
    (case z_ValueError => k_is)
    (case z_all => k_is)
    (case z_bool => k_is)
    (case z_dict => k_is)
    (case z_int => k_is)
    (case z_isinstance => k_is)
    (case z_len => k_is)
    (case z_list => k_is)
    (case z_max => k_is)
    (case z_min => k_is)
    (case z_range => k_is)
    (case z_sum => k_is)
    (case z_tuple => k_is)
    (case z_zip => k_is)
#print axioms PySem.Challenge.cw_fewnotes_k43_whole_records_turned_about_holds
