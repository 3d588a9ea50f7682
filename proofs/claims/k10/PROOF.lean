import PyProof.Rows.All
import Wide.All
import OpenK.AllK
import Wide.FinOn
import Lean
import PyProof.EqAt
import PyProof.EqKinds
import PyProof.TupleCall
import PyProof.EqLayable
import PyProof.ExcArgsOwn
import PyProof.ExcAttrAll.Exception
import PyProof.RulesAs
import PyProof.ExcBaseAll.ValueError
import PyProof.NsDelKeeps
import KE.KRevSl
import OpenK.KOps
import OpenK.KWalk
import PyProof.TupleIter
import PyProof.ZipIter
import PySem.Challenge.RW_fewnotes_k10_sixty_rows_by_itself
set_option Elab.async false
set_option linter.all false
set_option maxRecDepth 100000
/-! THE HAND LAYER, for ints, bools, texts, own classes, LISTS and tuples (index, slices, in, append, pop ..), calls, loops. Paste it whole ahead of your own text; what your proof does not reach may be deleted. -/
namespace L2
open PySem PySem.Spec PyProof.Rows

/-- a key: an int or a str -/
abbrev Key := Sum Int Str
def keyIs : Key → Value → Bool
  | .inl k, v => Value.isInt k v
  | .inr x, v => Value.isStrOf x v
def keyH (w : World) : Key → Int
  | .inl k => hashInt k
  | .inr x => hashStr w x
theorem keyIs_shape : ∀ {k : Key} {v : Value}, keyIs k v = true → (∃ i t, k = Sum.inl i ∧ v = Value.int i t) ∨ (∃ x t, k = Sum.inr x ∧ v = Value.str x t)
  | .inl i, v, h => by
    obtain ⟨t, e⟩ := Value.isInt_shape (k := i) (v := v) h
    exact .inl ⟨i, t, rfl, e⟩
  | .inr x, v, h => by
    obtain ⟨t, e⟩ := Value.isStrOf_shape (x := x) (v := v) h
    exact .inr ⟨x, t, rfl, e⟩
theorem key_ll (a b : Int) : decide ((Sum.inl a : Key) = Sum.inl b) = (a == b) := by
  by_cases e : a = b
  · subst e; simp
  · have h : ¬ (Sum.inl a : Key) = Sum.inl b := fun q => e (Sum.inl.inj q)
    rw [decide_eq_false h]
    exact (beq_eq_false_iff_ne.mpr e).symm
theorem key_rr (a b : Str) : decide ((Sum.inr a : Key) = Sum.inr b) = decide (a = b) := by
  by_cases e : a = b
  · subst e; simp
  · have h : ¬ (Sum.inr a : Key) = Sum.inr b := fun q => e (Sum.inr.inj q)
    rw [decide_eq_false h, decide_eq_false e]
theorem key_lr (a : Int) (b : Str) : decide ((Sum.inl a : Key) = Sum.inr b) = false := decide_eq_false (fun q => nomatch q)
theorem key_rl (a : Str) (b : Int) : decide ((Sum.inr a : Key) = Sum.inl b) = false := decide_eq_false (fun q => nomatch q)

def mixKind (prog : Program) (w : World) : PySem.KeyKind prog w Key where
  is := keyIs
  hash := keyH w
  inj := fun v a b ha hb => by
    rcases keyIs_shape ha with ⟨i, t, rfl, rfl⟩ | ⟨x, t, rfl, rfl⟩
    · rcases keyIs_shape hb with ⟨j, u, rfl, e⟩ | ⟨y, u, rfl, e⟩
      · injection e with e1 _; rw [e1]
      · exact nomatch e
    · rcases keyIs_shape hb with ⟨j, u, rfl, e⟩ | ⟨y, u, rfl, e⟩
      · exact nomatch e
      · injection e with e1 _; rw [e1]
  byValue := fun k v h => by
    rcases keyIs_shape h with ⟨i, t, rfl, rfl⟩ | ⟨x, t, rfl, rfl⟩ <;> rfl
  pyHash := fun hv h => by
    rcases keyIs_shape hv with ⟨i, t, rfl, rfl⟩ | ⟨x, t, rfl, rfl⟩
    · exact wpAny_pyHash_int h
    · exact wpAny_pyHash_str h
  eqBool := fun hu hv h => by
    rcases keyIs_shape hu with ⟨i, t, rfl, rfl⟩ | ⟨x, t, rfl, rfl⟩
    · rcases keyIs_shape hv with ⟨j, u, rfl, rfl⟩ | ⟨y, u, rfl, rfl⟩
      · rw [key_ll] at h; exact wpAny_eqBool_int h
      · rw [key_lr] at h; exact SeqAt.EqAt.int_str i t y u _ _ _ _ h
    · rcases keyIs_shape hv with ⟨j, u, rfl, rfl⟩ | ⟨y, u, rfl, rfl⟩
      · rw [key_rl] at h; exact SeqAt.EqAt.str_int x t j u _ _ _ _ h
      · rw [key_rr] at h; exact wpAny_eqBool_str h
  «strs» := fun k x t v h => by
    rcases keyIs_shape h with ⟨i, u, rfl, e⟩ | ⟨y, u, rfl, e⟩
    · exact nomatch e
    · injection e with e1 _
      subst e1
      cases v <;> rfl

end L2

namespace L2
open PySem PySem.Spec PyProof.Rows

/-- a value, without the heap -/
inductive V where
  | non | bl (b : Bool) | int (i : Int) | str (x : Str) | byt (b : Array UInt8) | flt (b : UInt64) | ref (a : Addr) | ty (n : String)
  deriving DecidableEq

def RelV : V → Value → Prop
  | .non, u => u = Value.none
  | .bl b, u => u = Value.bool b
  | .int i, u => ∃ t, u = Value.int i t
  | .str x, u => ∃ t, u = Value.str x t
  | .byt b, u => ∃ t, u = Value.bytes b t
  | .flt b, u => ∃ t, u = Value.float b t
  | .ref a, u => u = Value.ref a
  | .ty n, u => u = Value.type n

abbrev Vals : List V → List Value → Prop := Paired RelV
theorem Vals.length {xs : List V} {us : List Value} (r : Vals xs us) : xs.length = us.length := Paired.length r
theorem Vals.get : ∀ {xs : List V} {us : List Value} {i : Nat} {x : V}, Vals xs us → xs[i]? = some x → ∃ u, us[i]? = some u ∧ RelV x u
  | _, _, _, _, .nil, e => by simp at e
  | _, _, 0, _, .cons r _, e => by simp at e; subst e; exact ⟨_, rfl, r⟩
  | _, _, i + 1, x, .cons _ t, e => by
    obtain ⟨u, h1, h2⟩ := Vals.get (i := i) (x := x) t (by simpa using e)
    exact ⟨u, by simpa using h1, h2⟩
theorem Vals.set {x : V} {u : Value} (r : RelV x u) : ∀ {xs : List V} {us : List Value} (i : Nat), Vals xs us → Vals (xs.set i x) (us.set i u)
  | _, _, _, .nil => .nil
  | _, _, 0, .cons _ t => .cons r t
  | _, _, i + 1, .cons q t => .cons q (Vals.set r i t)
theorem Vals.append {xs ys : List V} {us ws : List Value} (h : Vals xs us) (s : Vals ys ws) : Vals (xs ++ ys) (us ++ ws) := by
  induction h with
  | nil => exact s
  | cons r t ih => exact .cons r ih
theorem Vals.take : ∀ {xs : List V} {us : List Value} (n : Nat), Vals xs us → Vals (xs.take n) (us.take n)
  | _, _, 0, _ => .nil
  | _, _, _ + 1, .nil => .nil
  | _, _, n + 1, .cons r t => .cons r (Vals.take n t)
theorem Vals.drop : ∀ {xs : List V} {us : List Value} (n : Nat), Vals xs us → Vals (xs.drop n) (us.drop n)
  | _, _, 0, r => r
  | _, _, _ + 1, .nil => .nil
  | _, _, n + 1, .cons _ t => Vals.drop n t
def RelO : Option V → Option Value → Prop
  | some v, some u => RelV v u
  | none, none => True
  | _, _ => False
def KV {κ : Type} : List (κ × V) → List (κ × Value) → Prop := Paired fun (p : κ × V) (q : κ × Value) => p.1 = q.1 ∧ RelV p.2 q.2

/-- a key of a dict (00_mix): an int or a text -/
def kV : Key → V
  | .inl i => .int i
  | .inr x => .str x

/-- what stands at a tracked address -/
inductive HO where
  /-- a list -/
  | lst (xs : List V)
  /-- a tuple (never changes) -/
  | tup (xs : List V)
  /-- a dict whose keys are ints and texts; one whose keys are tuples of ints and texts (the empty one is both) -/
  | dK (kvs : List (Key × V)) | dT (kvs : List (List Key × V))
  /-- a set of ints: its members, its size -/
  | set (S : Int → Bool) (n : Nat)
  /-- an instance of the class at C, its dict at dx, its attributes -/
  | ins (C dx : Addr) (fs : List (Str × V))
  /-- the dict of the instance at x -/
  | own (x : Addr)
  /-- the dict of an exception -/
  | xd (fs : List (Str × V))
  /-- a bound method, f of x -/
  | met (f x : Addr)
  /-- a range object lo, lo + 1, .. below hi -/
  | rng (lo hi : Int)
  /-- a thing that is known to the object (the script; a dict while a loop walks it): read, never written while it is so -/
  | frz (o : Obj) (u : HO)
  /-- a code object's table -/
  | tbl (ps : Array Value)
  /-- any other thing, by what is true of its one object (a def of one's own: SetO a S n := HO.ext fun h => ..) -/
  | ext (φ : Heap → Prop)

abbrev Hp := Addr → Option HO
def upd (H : Hp) (a : Addr) (o : HO) : Hp := fun b => if b = a then some o else H b
theorem upd_same {H : Hp} {a : Addr} {o : HO} : upd H a o a = some o := by unfold upd; rw [if_pos rfl]
theorem upd_ne {H : Hp} {a b : Addr} {o : HO} (h : b ≠ a) : upd H a o b = H b := by unfold upd; rw [if_neg h]
/-- two objects of different content stand apart -/
theorem ne_of {H : Hp} {a b : Addr} {o u : HO} (h : H a = some o) (h' : H b = some u) (d : o ≠ u) : a ≠ b := by
  intro e; subst e; rw [h] at h'; exact d (Option.some.inj h')
theorem ne_of_none {H : Hp} {a b : Addr} {o : HO} (h : H a = some o) (h' : H b = none) : a ≠ b := by
  intro e; subst e; rw [h] at h'; cases h'

section
variable (P : Program) (w : World)
def ObjOk (H : Hp) (h : Heap) (a : Addr) : HO → Prop
  | .lst xs => xs.length ≤ sizeLine ∧ ∃ (its : List Value) (n : Nat), Vals xs its ∧ h.get? a = some { cls := .type "list", data := .seq its.toArray n }
  | .tup xs => xs.length ≤ sizeLine ∧ ∃ its : List Value, Vals xs its ∧ IsTup h a its.toArray
  | .dK kvs => kvs.length ≤ sizeLine ∧ (a == sysModules) = false ∧ ∃ vs, KV kvs vs ∧ h.DictOf (mixKind P w) a vs
  | .dT kvs => kvs.length ≤ sizeLine ∧ (a == sysModules) = false ∧ ∃ xs : List (List Key × Addr × Value),
      Paired (fun (p : List Key × V) (q : List Key × Addr × Value) => p.1 = q.1 ∧ H q.2.1 = some (.tup (p.1.map kV)) ∧ RelV p.2 q.2.2) kvs xs ∧
      ∃ o es ep, h.get? a = some o ∧ o.ExactDict ∧ o.data = .dict es ep ∧ es.toList = xs.map (entryOfKey (tupleKind (mixKind P w))) ∧ (xs.map (·.1)).Nodup
  | .set S n => h.SetOf (intKind P w) a S n
  | .ins C dx fs => H dx = some (.own a) ∧ fs.length ≤ 1000 ∧ dx ≠ a ∧ h.get? a = some (PySem.W.instObj C dx) ∧
      ∃ mA, h.Ns1 dx mA ∧ (∀ f, RelO (fs.lookup f) (mA f)) ∧ PySem.Within mA (fs.map (·.1))
  | .own _ => ∃ o, h.get? a = some o
  | .xd fs => ∃ mA, h.Ns1 a mA ∧ ∀ f, RelO (fs.lookup f) (mA f)
  | .rng lo hi => ∃ t u v, h.get? a = some { cls := .type "range", data := .fields #[.int lo t, .int hi u, .int 1 v] }
  | .frz o u => h.get? a = some o ∧ ObjOk H h a u
  | .tbl ps => h.get? a = some { cls := .none, data := .fields ps }
  | .met f x => h.get? a = some (PySem.W.methodObj (.ref f) (.ref x))
  | .ext φ => φ h ∧ (∃ o, h.get? a = some o) ∧ ∀ h1 h2 : Heap, φ h1 → (∀ o, h1.get? a = some o → h2.get? a = some o) → φ h2
/-- the abstract heap is held -/
def HOk (H : Hp) (h : Heap) : Prop := ∀ a o, H a = some o → ObjOk P w H h a o
end

section
variable {P : Program} {w : World} {H H' : Hp} {h h' : Heap} {a : Addr} {o : HO}
theorem ObjOk.lt (x : ObjOk P w H h a o) : a < h.objs.size := by
  cases o with
  | lst xs => obtain ⟨_, _, _, _, e⟩ := x; exact Heap.lt_size e
  | tup xs => obtain ⟨_, _, _, p⟩ := x; exact p.lt
  | dK kvs => obtain ⟨_, _, _, _, o, _, _, e, _⟩ := x; exact Heap.lt_size e
  | dT kvs => obtain ⟨_, _, _, _, o, _, _, e, _⟩ := x; exact Heap.lt_size e
  | set S n => obtain ⟨o, _, _, _, e, _⟩ := x; exact Heap.lt_size e
  | ins C dx fs => obtain ⟨_, _, _, e, _⟩ := x; exact Heap.lt_size e
  | own y => obtain ⟨_, e⟩ := x; exact Heap.lt_size e
  | xd fs => obtain ⟨_, ⟨_, _, _, e, _⟩, _⟩ := x; exact Heap.lt_size e
  | rng lo hi => obtain ⟨_, _, _, e⟩ := x; exact Heap.lt_size e
  | frz ob u => obtain ⟨e, _⟩ := x; exact Heap.lt_size e
  | tbl ps => exact Heap.lt_size (show h.get? a = some _ from x)
  | met f y => exact Heap.lt_size (show h.get? a = some _ from x)
  | ext φ => obtain ⟨_, ⟨_, e⟩, _⟩ := x; exact Heap.lt_size e
theorem Paired.mapP {α β : Type} {F G : α → β → Prop} : ∀ {l₁ : List α} {l₂ : List β}, Paired F l₁ l₂ → (∀ a b, F a b → G a b) → Paired G l₁ l₂
  := by
  intro l₁ l₂ h f
  induction h with
  | nil => exact .nil
  | cons r t ih => exact .cons (f _ _ r) ih
/-- what an object's description leans on: its own object, its own dict, the tuples -/
theorem ObjOk.stay (x : ObjOk P w H h a o) (k : ∀ b u, (b = a ∨ H b = some (.own a)) → h.get? b = some u → h'.get? b = some u)
    (ho : ∀ b, H b = some (.own a) → H' b = some (.own a)) (ht : ∀ b xs, H b = some (.tup xs) → H' b = some (.tup xs)) : ObjOk P w H' h' a o := by
  induction o with
  | lst xs => obtain ⟨z, its, n, r, e⟩ := x; exact ⟨z, its, n, r, k _ _ (.inl rfl) e⟩
  | tup xs => obtain ⟨z, its, r, ob, e, c⟩ := x; exact ⟨z, its, r, ob, k _ _ (.inl rfl) e, c⟩
  | dK kvs => obtain ⟨z, y, vs, r, ob, es, ep, e, c⟩ := x; exact ⟨z, y, vs, r, ob, es, ep, k _ _ (.inl rfl) e, c⟩
  | dT kvs =>
    obtain ⟨z, y, xs, r, ob, es, ep, e, c⟩ := x
    exact ⟨z, y, xs, Paired.mapP r fun p q z => ⟨z.1, ht _ _ z.2.1, z.2.2⟩, ob, es, ep, k _ _ (.inl rfl) e, c⟩
  | set S n => obtain ⟨ob, es, ep, t, e, c⟩ := x; exact ⟨ob, es, ep, t, k _ _ (.inl rfl) e, c⟩
  | ins C dx fs =>
    obtain ⟨d, z, ne, e, mA, ⟨od, es, ep, e2, c⟩, r⟩ := x
    exact ⟨ho _ d, z, ne, k _ _ (.inl rfl) e, mA, ⟨od, es, ep, k _ _ (.inr d) e2, c⟩, r⟩
  | own y => obtain ⟨ob, e⟩ := x; exact ⟨ob, k _ _ (.inl rfl) e⟩
  | xd fs => obtain ⟨mA, ⟨od, es, ep, e, c⟩, r⟩ := x; exact ⟨mA, ⟨od, es, ep, k _ _ (.inl rfl) e, c⟩, r⟩
  | rng lo hi => obtain ⟨t, u, v, e⟩ := x; exact ⟨t, u, v, k _ _ (.inl rfl) e⟩
  | frz ob u ih => obtain ⟨e, q⟩ := x; exact ⟨k _ _ (.inl rfl) e, ih q⟩
  | tbl ps =>
    have e : h.get? a = some { cls := .none, data := .fields ps } := x
    show h'.get? a = some { cls := .none, data := .fields ps }
    exact k a _ (.inl rfl) e
  | met f y =>
    have e : h.get? a = some (PySem.W.methodObj (.ref f) (.ref y)) := x
    show h'.get? a = some (PySem.W.methodObj (.ref f) (.ref y))
    exact k a _ (.inl rfl) e
  | ext φ => obtain ⟨p, ⟨o, e⟩, st⟩ := x; exact ⟨st _ _ p fun o q => k _ _ (.inl rfl) q, ⟨o, k _ _ (.inl rfl) e⟩, st⟩
theorem HOk.lt (x : HOk P w H h) (e : H a = some o) : a < h.objs.size := (x a o e).lt
theorem HOk.fresh (x : HOk P w H h) (e : h.objs.size ≤ a) : H a = none := by
  cases q : H a with
  | none => rfl
  | some u => exact absurd (Nat.lt_of_lt_of_le (x.lt q) e) (Nat.lt_irrefl _)
/-- every object of the heap is kept -/
theorem HOk.kept (x : HOk P w H h) (k : ∀ b u, h.get? b = some u → h'.get? b = some u) : HOk P w H h' := fun a o e =>
  (x a o e).stay (fun b u _ q => k b u q) (fun _ q => q) fun _ _ q => q
/-- a new object is laid and tracked -/
theorem HOk.laid (x : HOk P w H h) (k : ∀ b u, h.get? b = some u → h'.get? b = some u) (hp : h.objs.size ≤ a) (new : ObjOk P w (upd H a o) h' a o) : HOk P w (upd H a o) h' := fun b u e => by
  have hn := x.fresh hp
  by_cases hb : b = a
  · subst hb; rw [upd_same] at e; cases e; exact new
  · rw [upd_ne hb] at e
    exact (x b u e).stay (fun c v _ q => k c v q) (fun c q => by rw [upd_ne (ne_of_none q hn)]; exact q) fun c xs q => by rw [upd_ne (ne_of_none q hn)]; exact q
end

/-- what may be read as u: it is u, or a known u -/
def Rd (H : Hp) (a : Addr) (u : HO) : Prop := H a = some u ∨ ∃ o, H a = some (.frz o u)
theorem Rd.ok {P : Program} {w : World} {H : Hp} {h : Heap} {a : Addr} {u : HO} (r : Rd H a u) (x : HOk P w H h) : ObjOk P w H h a u := by
  rcases r with r | ⟨o, r⟩
  · exact x a u r
  · obtain ⟨_, q⟩ := x a _ r
    exact q
/-- what may be written -/
def Mut : Option HO → Prop
  | some (.lst _) => True
  | some (.dK _) => True
  | some (.dT _) => True
  | some (.set _ _) => True
  | some (.ins _ _ _) => True
  | some (.ext _) => True
  | _ => False
section
variable {P : Program} {w : World} {H : Hp} {h h' : Heap} {x e : Addr} {o' : HO}
/-- the object at e is changed: x itself, or the dict of the instance x -/
theorem HOk.write (ok : HOk P w H h) (mu : Mut (H x)) (he : e = x ∨ H e = some (.own x)) (k : ∀ b u, b ≠ e → h.get? b = some u → h'.get? b = some u) (heo : ∃ u, h'.get? e = some u)
    (new : ObjOk P w (upd H x o') h' x o') : HOk P w (upd H x o') h' := fun b u q => by
  have nown : ∀ c y, H c = some (.own y) → c ≠ x := fun c y r z => by subst z; rw [r] at mu; exact mu
  have ntup : ∀ c xs, H c = some (.tup xs) → c ≠ x := fun c xs r z => by subst z; rw [r] at mu; exact mu
  by_cases hb : b = x
  · subst hb; rw [upd_same] at q; cases q; exact new
  · rw [upd_ne hb] at q
    by_cases hbe : b = e
    · have q' : H b = some (.own x) := by
        rcases he with z | z
        · exact absurd (hbe.trans z) hb
        · rw [hbe]; exact z
      rw [q] at q'; cases q'
      obtain ⟨v, hv⟩ := heo
      exact ⟨v, by rw [hbe]; exact hv⟩
    · refine (ok b u q).stay (fun c v hc r => k c v ?_ r) (fun c r => by rw [upd_ne (nown c b r)]; exact r) fun c xs r => by rw [upd_ne (ntup c xs r)]; exact r
      rcases hc with rfl | hc
      · exact hbe
      · rintro rfl
        rcases he with z | z
        · exact nown c b hc z
        · rw [hc] at z; cases z; exact hb rfl
end

/-! ### kept unless tracked; of the frames at fs (the callers') the slots may change (an exception that passes writes there); of the records at ex (iterators) nothing is said -/
structure Un (fs ex : List Addr) (H H' : Hp) (h h' : Heap) : Prop where
  keep : ∀ b o, h.get? b = some o → H b = none → b ∉ fs → b ∉ ex → h'.get? b = some o
  slot : ∀ b o, h.get? b = some o → H b = none → b ∈ fs → b ∉ ex → ∃ sl, h'.get? b = some { o with slots := sl }
  free : ∀ b o, h.get? b = some o → H b = none → b ∉ ex → H' b = none
  there : ∀ b o, h.get? b = some o → b ∉ ex → ∃ o', h'.get? b = some o'
  tups : ∀ b xs, H b = some (.tup xs) → H' b = some (.tup xs)
  frzs : ∀ b o u, H b = some (.frz o u) → H' b = some (.frz o u)
  tbls : ∀ b ps, H b = some (.tbl ps) → ∃ more, H' b = some (.tbl (ps ++ more))
section
variable {fs fs' ex ex' : List Addr} {H H1 H2 : Hp} {h h1 h2 h' : Heap} {a x e : Addr} {o : HO}
theorem Un.any (u : Un fs ex H H1 h h1) {b : Addr} {ob : Obj} (q : h.get? b = some ob) (n : H b = none) (hx : b ∉ ex) : ∃ sl, h1.get? b = some { ob with slots := sl } := by
  by_cases hb : b ∈ fs
  · exact u.slot b ob q n hb hx
  · exact ⟨ob.slots, u.keep b ob q n hb hx⟩
theorem Un.kept (k : ∀ b u, h.get? b = some u → h'.get? b = some u) : Un fs ex H H h h' :=
  ⟨fun b ob q _ _ _ => k b ob q, fun b ob q _ _ _ => ⟨ob.slots, k b ob q⟩, fun _ _ _ n _ => n, fun b ob q _ => ⟨ob, k b ob q⟩, fun _ _ q => q, fun _ _ _ q => q, fun _ ps q => ⟨#[], by rw [q]; simp⟩⟩
theorem Un.refl : Un fs ex H H h h := Un.kept fun _ _ q => q
theorem Un.laid (k : ∀ b u, h.get? b = some u → h'.get? b = some u) (hp : h.objs.size ≤ a) (hn : H a = none) : Un fs ex H (upd H a o) h h' where
  keep := fun b u q _ _ _ => k b u q
  slot := fun b u q _ _ _ => ⟨u.slots, k b u q⟩
  free := fun b u q n _ => by rw [upd_ne (Nat.ne_of_lt (Nat.lt_of_lt_of_le (Heap.lt_size q) hp))]; exact n
  there := fun b u q _ => ⟨u, k b u q⟩
  tups := fun b xs q => by rw [upd_ne (ne_of_none q hn)]; exact q
  frzs := fun b u xs q => by rw [upd_ne (ne_of_none q hn)]; exact q
  tbls := fun b ps q => ⟨#[], by rw [upd_ne (ne_of_none q hn), q]; simp⟩
theorem Un.write (mu : Mut (H x)) (he : e = x ∨ H e = some (.own x)) (k : ∀ b u, b ≠ e → h.get? b = some u → h'.get? b = some u) (heo : ∃ u, h'.get? e = some u) : Un fs ex H (upd H x o) h h' := by
  have hx : ∀ b, H b = none → b ≠ x := fun b n z => by subst z; rw [n] at mu; exact mu
  have hb : ∀ b, H b = none → b ≠ e := fun b n z => by
    subst z
    rcases he with r | r
    · exact hx b n r
    · rw [n] at r; cases r
  have hm : ∀ b u, H b = some u → ¬ Mut (some u) → b ≠ x := fun b u q nm z => by subst z; rw [q] at mu; exact nm mu
  refine ⟨fun b u q n _ _ => k b u (hb b n) q, fun b u q n _ _ => ⟨u.slots, k b u (hb b n) q⟩, fun b u q n _ => by rw [upd_ne (hx b n)]; exact n, fun b u q _ => ?_,
    fun b xs q => by rw [upd_ne (hm b _ q fun z => z)]; exact q, fun b u xs q => by rw [upd_ne (hm b _ q fun z => z)]; exact q, fun b ps q => ⟨#[], by rw [upd_ne (hm b _ q fun z => z), q]; simp⟩⟩
  by_cases hbe : b = e
  · subst hbe; exact heo
  · exact ⟨u, k b u hbe q⟩
end

/-! ### the heap without what is tracked -/
def trk (h : Heap) (H : Hp) : List Addr := (List.range h.objs.size).filter fun a => (H a).isSome
def hidT (h : Heap) (H : Hp) : Heap := PySem.W.hideAll h (trk h H)
theorem hidT_size (h : Heap) (H : Hp) : (hidT h H).objs.size = h.objs.size := PySem.W.hideAll_size _ _
theorem hidT_get {h : Heap} {H : Hp} {b : Addr} {o : Obj} (e : h.get? b = some o) (n : H b = none) : (hidT h H).get? b = some o :=
  PySem.W.hideAll_get _ e fun hm => by
    have q : (H b).isSome = true := (List.mem_filter.mp hm).2
    rw [n] at q; simp at q
theorem of_hidT {h : Heap} {H : Hp} {b : Addr} {o : Obj} (e : (hidT h H).get? b = some o) : h.get? b = some o ∧ H b = none := by
  have e' : h.get? b = some o := PySem.W.of_hideAll (trk h H) e
  refine ⟨e', ?_⟩
  cases q : H b with
  | none => rfl
  | some x =>
    have hm : b ∈ trk h H := List.mem_filter.mpr ⟨List.mem_range.mpr (Heap.lt_size e'), by simp [q]⟩
    have z : (hidT h H).get? b = none := PySem.W.hideAll_none (trk h H) hm
    rw [z] at e; cases e

/-! ### OpenK's ledger, filled with every new object but one -/
def allNews (g h : Heap) (L : Addr) : List (Addr × Obj) := (List.range h.objs.size).filterMap fun a => if a = L ∨ (g.get? a).isSome = true then none else (h.get? a).map fun o => (a, o)
def rest (g h : Heap) (L d : Addr) : List (Addr × Obj) := (allNews g h L).filter fun p => decide (p.1 ≠ d)
end L2

namespace L2
open PySem PySem.Spec PyProof.Rows

/-- the module's facts, over the base: the heap at the law's entry without what is tracked there -/
structure Mod (K : PySem.W.Frag) (mg : Str → Option Value) (base : Heap) : Prop where
  kin : K.In base
  glob : base.Ns mainGlobals mg
  blt : ∃ mb, base.Ns builtinsNs mb ∧ ∀ x : Str, x ≠ "__name__" → mb x = bootBuiltins x
  nolimit : base.NoLimit

/-- the context: a def's body (or a comprehension's block) running. base: fixed through the whole law; s₀, H₀: the entry; outer: the frames whose slots others may change (a def's callers); stack: all frames that run;
   ex: iterators that were made ahead of the entry and are walked here (a comprehension's); fn: the names whose cells were made at the entry (a def: all; a comprehension's block: its own); calm: not within an except suite; pn: pins that every state bears; xe: what is wanted of an exception that leaves the code -/
structure Cx where
  prog : Program
  w : World
  K : PySem.W.Frag
  mg : Str → Option Value
  base : Heap
  A : Around
  N : List Str
  s₀ : Shared
  H₀ : Hp
  env : Env
  outer : List Env
  stack : List Env
  ex : List Addr
  fn : Str → Bool
  calm : Bool
  pn : List (Addr × Obj)
  xe : Value → Shared → Prop
/-- the callers' frames -/
def frs (l : List Env) : List Addr := l.filterMap (·.frame)
abbrev Cx.fs (X : Cx) : List Addr := frs X.outer

def Vis (sc : Scope) (x : Str) : Prop := sc.names.lookup x = some .local ∨ sc.names.lookup x = some .cell ∨ sc.names.lookup x = some .free
def Loc (sc : Scope) (x : Str) : Prop := sc.names.lookup x = some .local ∨ sc.names.lookup x = some .cell
def Look (env : Env) (h : Heap) (m : Str → Option Value) (x : Str) (u : Value) : Prop :=
  (env.kindOf x = some .local ∧ m x = some u) ∨ ((env.kindOf x = some .cell ∨ env.kindOf x = some .free) ∧ ∃ c, env.cells.lookup x = some c ∧ h.IsCell c (some u))

structure Cx.Ok (X : Cx) : Prop where
  mod : Mod X.K X.mg X.base
  kind : X.env.scope.kind = .function
  glob : X.env.globals = mainGlobals
  blt : X.env.builtins = builtinsNs
  above : X.s₀.heap.objs.size ≤ X.env.locals
  inj : ∀ x y c, X.env.cells.lookup x = some c → X.env.cells.lookup y = some c → x = y
  has : ∀ x, (X.env.kindOf x = some .cell ∨ X.env.kindOf x = some .free) → ∃ c, X.env.cells.lookup x = some c
  cab : ∀ x c, X.fn x = true → X.env.cells.lookup x = some c → X.s₀.heap.objs.size ≤ c
  hd : X.calm = true → X.A.handled = none
  frames : X.A.frames = some X.stack
  stk : X.stack = X.outer ∨ (X.stack = X.env :: X.outer ∧ X.env.frame = some X.env.locals)
  exf : ∀ b ∈ X.ex, b ≠ X.env.locals ∧ ∀ x c, X.env.cells.lookup x = some c → c ≠ b
  bs : ∀ b o, X.base.get? b = some o → X.s₀.heap.get? b = some o ∧ X.H₀ b = none
  bsz : X.base.objs.size ≤ X.s₀.heap.objs.size
  noex : ∀ b o, X.base.get? b = some o → b ∉ X.ex
  exfs : ∀ b ∈ X.ex, b ∉ X.fs
  funs : X.s₀.heap.FunFrames X.base X.outer
  frf : ∀ b ∈ X.fs, X.H₀ b = none

structure Inv (X : Cx) (pins : List (Addr × Obj)) (σ : List (Option V)) (H : Hp) (s : Shared) : Prop where
  ok : X.Ok
  os : s.os = X.s₀.os
  bare : AllBare s.gens
  base : Un X.fs X.ex X.H₀ H X.s₀.heap s.heap
  loc : ∃ m, s.heap.Ns X.env.locals m ∧ ∀ (i : Nat) (x : Str) (v : V), X.N[i]? = some x → σ[i]? = some (some v) → Vis X.env.scope x → ∃ u, RelV v u ∧ Look X.env s.heap m x u
  cell : ∀ x c, X.env.cells.lookup x = some c → ∃ v, s.heap.IsCell c v
  free : H X.env.locals = none
  freeC : ∀ x c, X.env.cells.lookup x = some c → H c = none
  pin : ∀ p ∈ X.pn ++ pins, s.heap.get? p.1 = some p.2 ∧ H p.1 = none ∧ p.1 ≠ X.env.locals ∧ p.1 ∉ X.fs ∧ ∀ v, p.2.data ≠ .cell v
  hok : HOk X.prog X.w H s.heap
  len : σ.length = X.N.length

section
variable {X : Cx} {pins : List (Addr × Obj)} {σ : List (Option V)} {H H' : Hp} {s : Shared} {h' : Heap}

theorem Cx.Ok.nofr (ok : X.Ok) {b : Addr} {o : Obj} (e : X.base.get? b = some o) : b ∉ X.fs := fun hb => by
  have := (ok.funs.mem hb).1
  rw [e] at this; cases this
theorem Inv.bs (I : Inv X pins σ H s) : ∀ b o, X.base.get? b = some o → s.heap.get? b = some o ∧ H b = none := fun b o e =>
  ⟨I.base.keep b o (I.ok.bs b o e).1 (I.ok.bs b o e).2 (I.ok.nofr e) (I.ok.noex b o e), I.base.free b o (I.ok.bs b o e).1 (I.ok.bs b o e).2 (I.ok.noex b o e)⟩
theorem Inv.bk (I : Inv X pins σ H s) : ∀ b o, X.base.get? b = some o → s.heap.get? b = some o := fun b o e => (I.bs b o e).1
theorem Inv.mod (I : Inv X pins σ H s) : Mod X.K X.mg X.base := I.ok.mod
theorem Inv.kIn (I : Inv X pins σ H s) : X.K.In s.heap := I.ok.mod.kin.keeps I.bk
theorem Inv.lt (I : Inv X pins σ H s) : X.env.locals < s.heap.objs.size := let ⟨_, hn, _⟩ := I.loc; hn.lt
theorem Inv.sz (I : Inv X pins σ H s) : X.s₀.heap.objs.size ≤ s.heap.objs.size := Nat.le_trans I.ok.above (Nat.le_of_lt I.lt)
theorem Inv.nofs (I : Inv X pins σ H s) {a : Addr} (h : s.heap.objs.size ≤ a) : a ∉ X.fs := fun hb => by
  obtain ⟨_, o, ho, _⟩ := I.ok.funs.mem hb
  exact absurd (Nat.lt_of_lt_of_le (Heap.lt_size ho) (Nat.le_trans I.sz h)) (Nat.lt_irrefl _)
theorem Inv.cne (I : Inv X pins σ H s) : ∀ x c, X.env.cells.lookup x = some c → c ≠ X.env.locals := fun x c e z => by
  obtain ⟨v, o, ho, hd⟩ := I.cell x c e
  obtain ⟨m, ⟨o', es, ep, ho', hd', _⟩, _⟩ := I.loc
  rw [z, ho'] at ho; cases ho; rw [hd'] at hd; cases hd
theorem Inv.funs (I : Inv X pins σ H s) : s.heap.FunFrames X.base X.outer := by
  have all : ∀ (l : List Env), (∀ b ∈ frs l, b ∈ X.fs) → X.s₀.heap.FunFrames X.base l → s.heap.FunFrames X.base l := by
    intro l
    induction l with
    | nil => intro _ _; trivial
    | cons env r ih =>
      intro hs hl
      obtain ⟨hk, ⟨L, o, hf, hn, ho, hd⟩, hr⟩ := hl
      have hL : L ∈ X.fs := hs L (by unfold frs; rw [List.filterMap_cons, hf]; exact List.mem_cons_self)
      obtain ⟨sl, e⟩ := I.base.slot L o ho (I.ok.frf L hL) hL fun z => I.ok.exfs L z hL
      exact ⟨hk, ⟨L, _, hf, hn, e, hd⟩, ih (fun b hb => hs b (by unfold frs; rw [List.filterMap_cons, hf]; exact List.mem_cons_of_mem _ hb)) hr⟩
  exact all X.outer (fun _ hb => hb) I.ok.funs

/-- the frames that run, for a call -/
theorem Inv.stack (I : Inv X pins σ H s) : s.heap.FunFrames X.base X.stack := by
  rcases I.ok.stk with e | ⟨e, hf⟩
  · rw [e]; exact I.funs
  · rw [e]
    obtain ⟨m, hn, _⟩ := I.loc
    refine .cons (by rw [I.ok.kind]; decide) hf hn ?_ I.funs
    exact Heap.get?_none_of_le (Nat.le_trans I.ok.bsz I.ok.above)
theorem Inv.stkSub (I : Inv X pins σ H s) : ∀ b ∈ frs X.stack, b ∈ X.env.locals :: X.fs := fun b hb => by
  rcases I.ok.stk with e | ⟨e, hf⟩
  · rw [e] at hb; exact List.mem_cons_of_mem _ hb
  · rw [e] at hb
    unfold frs at hb
    rw [List.filterMap_cons, hf] at hb
    exact hb
theorem Inv.stkFree (I : Inv X pins σ H s) : ∀ b ∈ frs X.stack, H b = none := fun b hb => by
  rcases List.mem_cons.mp (I.stkSub b hb) with e | hb
  · rw [e]; exact I.free
  · obtain ⟨_, o, ho, _⟩ := I.ok.funs.mem hb
    exact I.base.free b o ho (I.ok.frf b hb) fun z => I.ok.exfs b z hb

/-- THE STEP: the untracked objects but the frame and the records at ch are kept (the callers' frames up to slots), the frame's map is kept, the new abstract heap is held -/
theorem Inv.step {g' : Array GenState} {t' : Nat} {d' : Drawn} {ch : List Addr} (I : Inv X pins σ H s)
    (hch : ∀ b ∈ ch, (b ∈ X.ex ∨ X.s₀.heap.objs.size ≤ b) ∧ b ≠ X.env.locals ∧ (∀ x c, X.env.cells.lookup x = some c → c ≠ b) ∧ ∀ p ∈ X.pn ++ pins, p.1 ≠ b)
    (keep : ∀ b o, b ≠ X.env.locals → b ∉ X.fs → b ∉ ch → s.heap.get? b = some o → H b = none → h'.get? b = some o)
    (slot : ∀ b o, b ≠ X.env.locals → b ∈ X.fs → b ∉ ch → s.heap.get? b = some o → H b = none → ∃ sl, h'.get? b = some { o with slots := sl }) (free : ∀ b o, b ∉ ch → s.heap.get? b = some o → H b = none → H' b = none)
    (there : ∀ b o, b ∉ ch → s.heap.get? b = some o → ∃ o', h'.get? b = some o')
    (tups : ∀ b xs, H b = some (.tup xs) → H' b = some (.tup xs)) (frzs : ∀ b o u, H b = some (.frz o u) → H' b = some (.frz o u)) (tbls : ∀ b ps, H b = some (.tbl ps) → ∃ more, H' b = some (.tbl (ps ++ more)))
    (ns : ∀ m, s.heap.Ns X.env.locals m → h'.Ns X.env.locals m) (hok : HOk X.prog X.w H' h') (hg : AllBare g') :
    Inv X pins σ H' { s with heap := h', gens := g', drawn := d', toks := t' } := by
  have neL : ∀ b o, X.s₀.heap.get? b = some o → b ≠ X.env.locals := fun b o e => Nat.ne_of_lt (Nat.lt_of_lt_of_le (Heap.lt_size e) I.ok.above)
  have neC : ∀ b o, X.s₀.heap.get? b = some o → b ∉ X.ex → b ∉ ch := fun b o e hx hb => by
    rcases (hch b hb).1 with z | z
    · exact hx z
    · exact absurd (Nat.lt_of_lt_of_le (Heap.lt_size e) z) (Nat.lt_irrefl _)
  have cellK : ∀ x c, X.env.cells.lookup x = some c → ∀ v, s.heap.IsCell c v → h'.IsCell c v := fun x c e v ⟨o, ho, hd⟩ => by
    have nch : c ∉ ch := fun z => (hch c z).2.2.1 x c e rfl
    by_cases hc : c ∈ X.fs
    · obtain ⟨sl, q⟩ := slot c o (I.cne x c e) hc nch ho (I.freeC x c e)
      exact ⟨_, q, hd⟩
    · exact ⟨o, keep c o (I.cne x c e) hc nch ho (I.freeC x c e), hd⟩
  refine ⟨I.ok, I.os, hg, ⟨fun b o e n hb hx => ?_, fun b o e n hb hx => ?_, fun b o e n hx => ?_, fun b o e hx => ?_, fun b xs e => tups b xs (I.base.tups b xs e), fun b o xs e => frzs b o xs (I.base.frzs b o xs e), fun b ps e => ?_⟩, ?_, fun x c e => ?_, ?_, fun x c e => ?_, fun p hp => ?_, hok, I.len⟩
  · exact keep b o (neL b o e) hb (neC b o e hx) (I.base.keep b o e n hb hx) (I.base.free b o e n hx)
  · obtain ⟨sl, e1⟩ := I.base.slot b o e n hb hx
    obtain ⟨sl', e2⟩ := slot b _ (neL b o e) hb (neC b o e hx) e1 (I.base.free b o e n hx)
    exact ⟨sl', e2⟩
  · obtain ⟨o', e1⟩ := I.base.there b o e hx
    exact free b o' (neC b o e hx) e1 (I.base.free b o e n hx)
  · obtain ⟨o', e1⟩ := I.base.there b o e hx
    exact there b o' (neC b o e hx) e1
  · obtain ⟨m1, e1⟩ := I.base.tbls b ps e
    obtain ⟨m2, e2⟩ := tbls b _ e1
    exact ⟨m1 ++ m2, by rw [e2, Array.append_assoc]⟩
  · obtain ⟨m, hn, hl⟩ := I.loc
    refine ⟨m, ns m hn, fun i x v e1 e2 e3 => ?_⟩
    obtain ⟨u, r, l⟩ := hl i x v e1 e2 e3
    refine ⟨u, r, ?_⟩
    rcases l with l | ⟨k, c, e, z⟩
    · exact .inl l
    · exact .inr ⟨k, c, e, cellK x c e _ z⟩
  · obtain ⟨v, z⟩ := I.cell x c e
    exact ⟨v, cellK x c e v z⟩
  · obtain ⟨m, ⟨o, _, _, ho, _⟩, _⟩ := I.loc
    exact free _ o (fun z => (hch _ z).2.1 rfl) ho I.free
  · obtain ⟨v, o, ho, hd⟩ := I.cell x c e
    exact free c o (fun z => (hch c z).2.2.1 x c e rfl) ho (I.freeC x c e)
  · obtain ⟨e, n, ne, nf, d⟩ := I.pin p hp
    have nch : p.1 ∉ ch := fun z => (hch p.1 z).2.2.2 p hp rfl
    exact ⟨keep p.1 p.2 ne nf nch e n, free p.1 p.2 nch e n, ne, nf, d⟩
/-- .. where the frame's own object is kept too -/
theorem Inv.un {t' : Nat} (I : Inv X pins σ H s) (u : Un X.fs [] H H' s.heap h') (hok : HOk X.prog X.w H' h') : Inv X pins σ H' { s with heap := h', toks := t' } := by
  obtain ⟨m, ⟨o, es, ep, ho, r⟩, _⟩ := id I.loc
  obtain ⟨sl, hL⟩ := u.any ho I.free (by simp)
  exact I.step (g' := s.gens) (d' := s.drawn) (ch := []) (fun _ z => nomatch z) (fun b o _ hb _ e n => u.keep b o e n hb (by simp)) (fun b o _ hb _ e n => u.slot b o e n hb (by simp)) (fun b o _ e n => u.free b o e n (by simp)) (fun b o _ e => u.there b o e (by simp)) u.tups u.frzs u.tbls (fun m' hm => by
    obtain ⟨o', es', ep', ho', r'⟩ := hm
    rw [ho] at ho'; cases ho'
    exact ⟨_, es', ep', hL, r'⟩) hok I.bare
/-- behind a call (or a comprehension's block): the slots of this frame may have changed too, the records at ch may have turned -/
theorem Inv.call {g' : Array GenState} {t' : Nat} {d' : Drawn} {ch : List Addr} (I : Inv X pins σ H s) (u : Un (frs X.stack) ch H H' s.heap h') (hok : HOk X.prog X.w H' h') (hg : AllBare g')
    (hch : ∀ b ∈ ch, (b ∈ X.ex ∨ X.s₀.heap.objs.size ≤ b) ∧ b ≠ X.env.locals ∧ (∀ x c, X.env.cells.lookup x = some c → c ≠ b) ∧ ∀ p ∈ X.pn ++ pins, p.1 ≠ b) :
    Inv X pins σ H' { s with heap := h', gens := g', drawn := d', toks := t' } := by
  obtain ⟨m, ⟨o, es, ep, ho, r⟩, _⟩ := id I.loc
  obtain ⟨sl, hL⟩ := u.any ho I.free fun z => (hch _ z).2.1 rfl
  exact I.step (ch := ch) hch (fun b o hL hb hc e n => u.keep b o e n (fun z => (List.mem_cons.mp (I.stkSub b z)).elim hL hb) hc) (fun b o _ _ hc e n => u.any e n hc) (fun b o hc e n => u.free b o e n hc) (fun b o hc e => u.there b o e hc) u.tups u.frzs u.tbls (fun m' hm => by
    obtain ⟨o', es', ep', ho', r'⟩ := hm
    rw [ho] at ho'; cases ho'
    exact ⟨_, es', ep', hL, r'⟩) hok hg
/-- an untracked record of ours (an iterator) has turned -/
theorem Inv.turned {t' : Nat} {it : Addr} (I : Inv X pins σ H s) (k : ∀ b o, b ≠ it → s.heap.get? b = some o → h'.get? b = some o) (hn : H it = none) (hL : it ≠ X.env.locals)
    (h1 : it ∈ X.ex ∨ X.s₀.heap.objs.size ≤ it) (h2 : ∀ x c, X.env.cells.lookup x = some c → c ≠ it) (h3 : ∀ p ∈ X.pn ++ pins, p.1 ≠ it) : Inv X pins σ H { s with heap := h', toks := t' } := by
  have nit : ∀ b u, H b = some u → b ≠ it := fun b u e z => by rw [z, hn] at e; cases e
  refine I.step (g' := s.gens) (d' := s.drawn) (ch := [it]) (fun b hb => ?_) (fun b o _ _ hc e _ => k b o (fun z => hc (by simp [z])) e) (fun b o _ _ hc e _ => ⟨o.slots, k b o (fun z => hc (by simp [z])) e⟩) (fun _ _ _ _ n => n)
    (fun b o hc e => ⟨o, k b o (fun z => hc (by simp [z])) e⟩) (fun _ _ e => e) (fun _ _ _ e => e) (fun b ps e => ⟨#[], by rw [e]; simp⟩) (fun m hm => ?_) (fun b u e => ?_) I.bare
  · have e : b = it := by simpa using hb
    subst e
    exact ⟨h1, hL, h2, h3⟩
  · obtain ⟨o, es, ep, ho, r⟩ := hm
    exact ⟨o, es, ep, k _ o (Ne.symm hL) ho, r⟩
  · refine (I.hok b u e).stay (fun c v hc q => k c v ?_ q) (fun _ q => q) fun _ _ q => q
    rcases hc with z | z
    · rw [z]; exact nit b u e
    · exact nit c _ z
theorem Inv.tok (I : Inv X pins σ H s) (t : Nat) : Inv X pins σ H { s with toks := t } := I.un (h' := s.heap) (t' := t) Un.refl I.hok
/-- all objects kept -/
theorem Inv.kept {t' : Nat} (I : Inv X pins σ H s) (k : ∀ b u, s.heap.get? b = some u → h'.get? b = some u) : Inv X pins σ H { s with heap := h', toks := t' } := I.un (Un.kept k) (I.hok.kept k)
/-- a new object laid and tracked -/
theorem Inv.laid {a : Addr} {o : HO} {t' : Nat} (I : Inv X pins σ H s) (k : ∀ b u, s.heap.get? b = some u → h'.get? b = some u) (hp : s.heap.objs.size ≤ a) (new : ObjOk X.prog X.w (upd H a o) h' a o) :
    Inv X pins σ (upd H a o) { s with heap := h', toks := t' } := I.un (Un.laid k hp (I.hok.fresh hp)) (I.hok.laid k hp new)
/-- an object written -/
theorem Inv.write {x e : Addr} {o : HO} {t' : Nat} (I : Inv X pins σ H s) (mu : Mut (H x)) (he : e = x ∨ H e = some (.own x)) (k : ∀ b u, b ≠ e → s.heap.get? b = some u → h'.get? b = some u) (heo : ∃ u, h'.get? e = some u)
    (new : ObjOk X.prog X.w (upd H x o) h' x o) : Inv X pins σ (upd H x o) { s with heap := h', toks := t' } := I.un (Un.write mu he k heo) (I.hok.write mu he k heo new)
theorem Inv.pins_of {pins' : List (Addr × Obj)} (I : Inv X pins σ H s) (h : ∀ p ∈ pins', s.heap.get? p.1 = some p.2 ∧ H p.1 = none ∧ p.1 ≠ X.env.locals ∧ p.1 ∉ X.fs ∧ ∀ v, p.2.data ≠ .cell v) : Inv X pins' σ H s :=
  ⟨I.ok, I.os, I.bare, I.base, I.loc, I.cell, I.free, I.freeC, fun p hp => (List.mem_append.mp hp).elim (fun z => I.pin p (List.mem_append_left _ z)) (h p), I.hok, I.len⟩

theorem nodup_ix {N : List Str} (hN : N.Nodup) {i j : Nat} {x : Str} (a : N[i]? = some x) (b : N[j]? = some x) : i = j := by
  obtain ⟨h1, e1⟩ := List.getElem?_eq_some_iff.mp a
  obtain ⟨h2, e2⟩ := List.getElem?_eq_some_iff.mp b
  exact (List.getElem_inj hN).mp (e1.trans e2.symm)

/-- a name is stored; what changed -/
theorem store_ok2 {M : Model} {A : Around} {E : Value → Shared → Prop} {i : Nat} {x : Str} {v : V} {u : Value} {Q : Unit → Shared → Prop} (I : Inv X pins σ H s) (hN : X.N.Nodup) (hi : X.N[i]? = some x) (hx : Loc X.env.scope x) (r : RelV v u)
    (h : ∀ s', Inv X pins (σ.set i (some v)) H s' → (∃ a, Heap.SameBut a s.heap s'.heap ∧ (a = X.env.locals ∨ X.env.cells.lookup x = some a)) → Q () s') (hf : X.fn x = true ∨ X.env.scope.names.lookup x = some .local := by first | exact .inl rfl | exact .inr rfl | assumption) : wpAny M A (storeName X.env x u) Q E s := by
  obtain ⟨m, hn, hl⟩ := id I.loc
  have hcls : (X.env.scope.kind == .class || (X.env.scope.kind == .module && X.env.locals != X.env.globals)) = false := by rw [I.ok.kind]; rfl
  have hiσ : i < σ.length := by rw [I.len]; exact (List.getElem?_eq_some_iff.mp hi).1
  have cne := I.cne
  have tracked : ∀ {a : Addr} {h' : Heap}, (∃ o, s.heap.get? a = some o ∧ H a = none) → Heap.SameBut a s.heap h' → HOk X.prog X.w H h' := fun {a h'} ha hs b ob e => by
    obtain ⟨_, _, hfree⟩ := ha
    refine (I.hok b ob e).stay (fun c w' hc q => (hs.2 c ?_).trans q) (fun _ q => q) fun _ _ q => q
    rintro rfl
    rcases hc with rfl | hc
    · rw [hfree] at e; cases e
    · rw [hfree] at hc; cases hc
  rcases hx with hk | hk
  · refine wpAny_storeName_local hk hn (fun h' hn' hs => ?_) hcls
    obtain ⟨oL, _, _, hoL, _⟩ := id hn
    refine h _ ⟨I.ok, I.os, I.bare, ⟨fun b o e n hb hx => ?_, fun b o e n hb hx => ?_, I.base.free, fun b o e hx => ?_, I.base.tups, I.base.frzs, I.base.tbls⟩, ⟨_, hn', fun j y v' e1 e2 e3 => ?_⟩, fun y c e => ?_, I.free, I.freeC, fun p hp => ?_, tracked ⟨oL, hoL, I.free⟩ hs, by simpa using I.len⟩ ⟨_, hs, .inl rfl⟩
    · exact (hs.2 b (Nat.ne_of_lt (Nat.lt_of_lt_of_le (Heap.lt_size e) I.ok.above))).trans (I.base.keep b o e n hb hx)
    · obtain ⟨sl, e1⟩ := I.base.slot b o e n hb hx
      exact ⟨sl, (hs.2 b (Nat.ne_of_lt (Nat.lt_of_lt_of_le (Heap.lt_size e) I.ok.above))).trans e1⟩
    · obtain ⟨o', e1⟩ := I.base.there b o e hx
      exact ⟨o', (hs.2 b (Nat.ne_of_lt (Nat.lt_of_lt_of_le (Heap.lt_size e) I.ok.above))).trans e1⟩
    · by_cases hj : j = i
      · subst hj
        rw [hi] at e1; cases e1
        rw [List.getElem?_set_self hiσ] at e2
        cases e2
        exact ⟨u, r, .inl ⟨hk, by simp⟩⟩
      · rw [List.getElem?_set_ne (Ne.symm hj)] at e2
        obtain ⟨u', r', q⟩ := hl j y v' e1 e2 e3
        refine ⟨u', r', ?_⟩
        rcases q with ⟨k, e⟩ | ⟨k, c, e, z⟩
        · refine .inl ⟨k, ?_⟩
          have : y ≠ x := fun e => hj (nodup_ix hN e1 (e ▸ hi))
          simp [this, e]
        · exact .inr ⟨k, c, e, z.sameBut hs (cne y c e)⟩
    · obtain ⟨w', z⟩ := I.cell y c e
      exact ⟨w', z.sameBut hs (cne y c e)⟩
    · obtain ⟨e, n, ne, nf, d⟩ := I.pin p hp
      exact ⟨(hs.2 p.1 ne).trans e, n, ne, nf, d⟩
  · have hfn : X.fn x = true := by
      rcases hf with z | z
      · exact z
      · rw [z] at hk; cases hk
    obtain ⟨c, hc⟩ := I.ok.has x (.inl hk)
    obtain ⟨w', z⟩ := I.cell x c hc
    refine wpAny_storeName_cell I.ok.kind hk hc z (fun h' hc' hs => ?_)
    obtain ⟨oc, hoc, hocd⟩ := id z
    refine h { s with heap := h' } ⟨I.ok, I.os, I.bare, ⟨fun b o e n hb hx => ?_, fun b o e n hb hx => ?_, I.base.free, fun b o e hx => ?_, I.base.tups, I.base.frzs, I.base.tbls⟩, ⟨m, hn.sameBut hs (Ne.symm (cne x c hc)), fun j y v' e1 e2 e3 => ?_⟩, fun y c' e => ?_, I.free, I.freeC, fun p hp => ?_, tracked ⟨oc, hoc, I.freeC x c hc⟩ hs, by simpa using I.len⟩ ⟨c, hs, .inr hc⟩
    · exact (hs.2 b (Nat.ne_of_lt (Nat.lt_of_lt_of_le (Heap.lt_size e) (I.ok.cab x c hfn hc)))).trans (I.base.keep b o e n hb hx)
    · obtain ⟨sl, e1⟩ := I.base.slot b o e n hb hx
      exact ⟨sl, (hs.2 b (Nat.ne_of_lt (Nat.lt_of_lt_of_le (Heap.lt_size e) (I.ok.cab x c hfn hc)))).trans e1⟩
    · obtain ⟨o', e1⟩ := I.base.there b o e hx
      exact ⟨o', (hs.2 b (Nat.ne_of_lt (Nat.lt_of_lt_of_le (Heap.lt_size e) (I.ok.cab x c hfn hc)))).trans e1⟩
    · by_cases hj : j = i
      · subst hj
        rw [hi] at e1; cases e1
        rw [List.getElem?_set_self hiσ] at e2
        cases e2
        exact ⟨u, r, .inr ⟨.inl hk, c, hc, hc'⟩⟩
      · rw [List.getElem?_set_ne (Ne.symm hj)] at e2
        obtain ⟨u', r', q⟩ := hl j y v' e1 e2 e3
        refine ⟨u', r', ?_⟩
        rcases q with q | ⟨k, c', e, z'⟩
        · exact .inl q
        · refine .inr ⟨k, c', e, z'.sameBut hs ?_⟩
          rintro rfl
          exact hj (nodup_ix hN e1 (I.ok.inj _ _ _ e hc ▸ hi))
    · by_cases hcc : c' = c
      · subst hcc; exact ⟨_, hc'⟩
      · obtain ⟨w2, z2⟩ := I.cell y c' e
        exact ⟨w2, z2.sameBut hs hcc⟩
    · obtain ⟨e, n, ne, nf, d⟩ := I.pin p hp
      refine ⟨(hs.2 p.1 ?_).trans e, n, ne, nf, d⟩
      intro q
      rw [q, hoc] at e
      have q' : oc = p.2 := Option.some.inj e
      exact d w' (by rw [← q']; exact hocd)
theorem store_ok {M : Model} {A : Around} {E : Value → Shared → Prop} {i : Nat} {x : Str} {v : V} {u : Value} {Q : Unit → Shared → Prop} (I : Inv X pins σ H s) (hN : X.N.Nodup) (hi : X.N[i]? = some x) (hx : Loc X.env.scope x) (r : RelV v u)
    (h : ∀ s', Inv X pins (σ.set i (some v)) H s' → Q () s') (hf : X.fn x = true ∨ X.env.scope.names.lookup x = some .local := by first | exact .inl rfl | exact .inr rfl | assumption) : wpAny M A (storeName X.env x u) Q E s :=
  store_ok2 I hN hi hx r (fun s' I' _ => h s' I') hf
/-- behind a call or a block, the state as it is -/
theorem Inv.call' {s' : Shared} {ch : List Addr} (I : Inv X pins σ H s) (ho : s'.os = s.os) (u : Un (frs X.stack) ch H H' s.heap s'.heap) (hok : HOk X.prog X.w H' s'.heap) (hg : AllBare s'.gens)
    (hch : ∀ b ∈ ch, (b ∈ X.ex ∨ X.s₀.heap.objs.size ≤ b) ∧ b ≠ X.env.locals ∧ (∀ x c, X.env.cells.lookup x = some c → c ≠ b) ∧ ∀ p ∈ X.pn ++ pins, p.1 ≠ b) : Inv X pins σ H' s' := by
  obtain ⟨h', g', d', t', o'⟩ := s'
  have e : o' = s.os := ho
  subst e
  exact I.call (g' := g') (t' := t') (d' := d') u hok hg hch
end

/-! ### the judgements -/
/-- an exception: its class, its own dict's address (where it has one), the abstract heap behind it -/
abbrev XK := Value → Option Addr → Hp → Prop
abbrev St := List (Option V)
abbrev VK := V → Hp → Prop
/-- an expression's reading; a test's; an argument list's -/
abbrev TE := St → Hp → VK → Prop
abbrev TT := St → Hp → (Bool → Hp → Prop) → Prop
abbrev TA := St → Hp → (List V → Hp → Prop) → Prop
/-- what is wanted behind a statement -/
structure Ends where
  nx : St → Hp → Prop
  rt : VK
  bk : St → Hp → Prop := fun _ _ => False
  ct : St → Hp → Prop := fun _ _ => False
abbrev TS := Ends → St → Hp → Prop

def EP (X : Cx) (pins : List (Addr × Obj)) (σ : St) (Q : VK) (u : Value) (s' : Shared) : Prop := ∃ v H', Inv X pins σ H' s' ∧ RelV v u ∧ Q v H'
def TP (X : Cx) (pins : List (Addr × Obj)) (σ : St) (Q : Bool → Hp → Prop) (b : Bool) (s' : Shared) : Prop := ∃ H', Inv X pins σ H' s' ∧ Q b H'
def AP (X : Cx) (pins : List (Addr × Obj)) (σ : St) (Q : List V → Hp → Prop) (us : List Value) (s' : Shared) : Prop := ∃ vs H', Inv X pins σ H' s' ∧ Vals vs us ∧ Q vs H'
def SP (X : Cx) (pins : List (Addr × Obj)) (D : Ends) (f : Flow) (s' : Shared) : Prop :=
  match f with
  | .next => ∃ σ' H', Inv X pins σ' H' s' ∧ D.nx σ' H'
  | .brk => ∃ σ' H', Inv X pins σ' H' s' ∧ D.bk σ' H'
  | .cont => ∃ σ' H', Inv X pins σ' H' s' ∧ D.ct σ' H'
  | .ret u => ∃ v σ' H', Inv X pins σ' H' s' ∧ RelV v u ∧ D.rt v H'

def PE (X : Cx) (e : Expr) (t : TE) : Prop :=
  ∀ (pins : List (Addr × Obj)) (s : Shared) (σ : St) (H : Hp) (Q : VK), Inv X pins σ H s → t σ H Q → wpAny (model X.prog X.w) X.A (eval e X.env) (EP X pins σ Q) X.xe s
def PT (X : Cx) (e : Expr) (t : TT) : Prop :=
  ∀ (pins : List (Addr × Obj)) (s : Shared) (σ : St) (H : Hp) (Q : Bool → Hp → Prop), Inv X pins σ H s → t σ H Q → wpAny (model X.prog X.w) X.A (isTrue e X.env (eval e X.env)) (TP X pins σ Q) X.xe s
/-- a test whatever its 'whole' is (and, or) -/
def PW (X : Cx) (e : Expr) (t : TT) : Prop :=
  ∀ (whole : Sem Value) (pins : List (Addr × Obj)) (s : Shared) (σ : St) (H : Hp) (Q : Bool → Hp → Prop), Inv X pins σ H s → t σ H Q → wpAny (model X.prog X.w) X.A (isTrue e X.env whole) (TP X pins σ Q) X.xe s
theorem PW.pt {X : Cx} {e : Expr} {t : TT} (h : PW X e t) : PT X e t := h _
/-- an argument list (no star), from the left -/
def PA (X : Cx) (es : List Expr) (t : TA) : Prop :=
  ∀ (pos : Pos) (pins : List (Addr × Obj)) (s : Shared) (σ : St) (H : Hp) (Q : List V → Hp → Prop), Inv X pins σ H s → t σ H Q → wpAny (model X.prog X.w) X.A (spliced (backTo pos (starEach es X.env))) (AP X pins σ Q) X.xe s
def PS (X : Cx) (st : Stmt) (t : TS) : Prop :=
  ∀ (pins : List (Addr × Obj)) (s : Shared) (σ : St) (H : Hp) (D : Ends), Inv X pins σ H s → t D σ H → wpAny (model X.prog X.w) X.A (exec st X.env) (SP X pins D) X.xe s
def PSs (X : Cx) (st : List Stmt) (t : TS) : Prop :=
  ∀ (pins : List (Addr × Obj)) (s : Shared) (σ : St) (H : Hp) (D : Ends), Inv X pins σ H s → t D σ H → wpAny (model X.prog X.w) X.A (execs st X.env) (SP X pins D) X.xe s
/-- weaken the end -/
theorem thn {α : Type} {t : Sem α} {Q Q' : α → Shared → Prop} {M : Model} {A : Around} {E : Value → Shared → Prop} {s : Shared} (h : wpAny M A t Q E s) (hQ : ∀ a s, Q a s → Q' a s) : wpAny M A t Q' E s := wpAny_mono h hQ fun _ _ x => x
end L2

namespace L2
open PySem PySem.Spec PyProof.Rows
section
variable {X : Cx}

/-! ### names and constants -/
def tVar (i : Nat) : TE := fun σ H Q => ∃ v, σ[i]? = some (some v) ∧ Q v H
def tC (v : V) : TE := fun _ H Q => Q v H
theorem pe_var {i : Nat} {x : Str} {pos : Pos} (hN : X.N[i]? = some x) (hv : Vis X.env.scope x) (hd : (x == ("__debug__" : Str)) = false := by decide) (hcd : (x == ("__classdict__" : Str)) = false := by decide) : PE X (.Name x pos) (tVar i) := by
  intro pins s σ H Q I h
  obtain ⟨v, e, h⟩ := h
  obtain ⟨m, hn, hl⟩ := I.loc
  obtain ⟨u, r, l⟩ := hl i x v hN e hv
  have fin : EP X pins σ Q u s := ⟨v, H, I, r, h⟩
  rcases l with ⟨hk, hm⟩ | ⟨hk, c, hc, hcell⟩
  · exact wpAny_Name (wpAny_loadName_local I.ok.kind hk hn hm fin) hd
  · rcases hk with hk | hk
    · exact wpAny_Name (wpAny_loadName_cell I.ok.kind hk hc hcell fin) hd
    · exact wpAny_Name (wpAny_loadName_free I.ok.kind hk hc hcell fin hcd) hd
theorem pe_int {i j pos} : PE X (.Constant (.int i) j pos) (tC (.int i)) := fun _ _ _ H _ I h => wpAny_Constant_int ⟨.int i, H, I.tok _, ⟨_, rfl⟩, h⟩
theorem pe_bl {b j pos} : PE X (.Constant (.bool b) j pos) (tC (.bl b)) := fun _ _ _ H _ I h => Constant_bool ⟨.bl b, H, I, rfl, h⟩
theorem pe_non {j pos} : PE X (.Constant .none j pos) (tC .non) := fun _ _ _ H _ I h => Constant_none ⟨.non, H, I, rfl, h⟩
theorem pe_str {x j pos} : PE X (.Constant (.str x) j pos) (tC (.str x)) := fun _ _ _ H _ I h => Calls.Constant_str ⟨.str x, H, I.tok _, ⟨_, rfl⟩, h⟩

/-- a global name of the def -/
def Gl (X : Cx) (x : Str) : Prop := X.env.kindOf x = some .globalImplicit
theorem ld_glob {E : Value → Shared → Prop} {pins : List (Addr × Obj)} {s : Shared} {σ : St} {H : Hp} {x : Str} {u : Value} {pos : Pos} {Q : Value → Shared → Prop} (I : Inv X pins σ H s) (hg : Gl X x) (hm : X.mg x = some u) (h : Q u s)
    (hd : (x == ("__debug__" : Str)) = false := by decide) : wpAny (model X.prog X.w) X.A (eval (.Name x pos) X.env) Q E s :=
  Calls.Name_function_global I.ok.kind hg (Calls.loadGlobal_global (by rw [I.ok.glob]; exact I.mod.glob.keeps I.bk) hm h) hd
theorem ld_blt {E : Value → Shared → Prop} {pins : List (Addr × Obj)} {s : Shared} {σ : St} {H : Hp} {x : Str} {u : Value} {pos : Pos} {Q : Value → Shared → Prop} (I : Inv X pins σ H s) (hg : Gl X x) (hm : X.mg x = none) (hv : bootBuiltins x = some u) (h : Q u s)
    (hn : x ≠ "__name__" := by decide) (hd : (x == ("__debug__" : Str)) = false := by decide) : wpAny (model X.prog X.w) X.A (eval (.Name x pos) X.env) Q E s := by
  obtain ⟨mb, h1, h2⟩ := I.mod.blt
  exact Calls.Name_function_global I.ok.kind hg (Calls.loadGlobal_builtin (by rw [I.ok.glob]; exact I.mod.glob.keeps I.bk) hm (by rw [I.ok.blt]; exact h1.keeps I.bk) ((h2 x hn).trans hv) h) hd
/-- a module's constant, a class, a function, as a value -/
theorem pe_glob {x : Str} {v : V} {u : Value} {pos : Pos} (hg : Gl X x) (hm : X.mg x = some u) (r : RelV v u) (hd : (x == ("__debug__" : Str)) = false := by decide) : PE X (.Name x pos) (tC v) :=
  fun _ _ _ H _ I h => ld_glob I hg hm ⟨v, H, I, r, h⟩ hd
theorem pe_bltn {x : Str} {v : V} {u : Value} {pos : Pos} (hg : Gl X x) (hm : X.mg x = none) (hv : bootBuiltins x = some u) (r : RelV v u) (hn : x ≠ "__name__" := by decide) (hd : (x == ("__debug__" : Str)) = false := by decide) : PE X (.Name x pos) (tC v) :=
  fun _ _ _ H _ I h => ld_blt I hg hm hv ⟨v, H, I, r, h⟩ hn hd

/-! ### arithmetic -/
variable {a b : Expr} {ta tb : TE} {pos : Pos}
/-! ### comparisons -/
/-- a comparison as a value, as a test -/
def tB (t : TE) : TT := fun σ H Q => t σ H fun x H1 => ∃ c, x = .bl c ∧ Q c H1
/-- an expression whose value is a bool, as a test -/
theorem pt_val {e : Expr} {t : TE} (h : PE X e t) (he : ∀ whole, isTrue e X.env whole = (do let v ← whole; standAt e.pos; holding [v] (truthy v)) := by intro _; rfl) : PT X e (tB t) := by
  intro pins s σ H Q I hw
  refine isTrue_plain (thn (h pins s σ H _ I hw) fun v s1 ⟨x, H1, I1, r1, q1⟩ => ?_) (he _)
  obtain ⟨d, rfl, q⟩ := q1
  cases r1
  exact wpAny_truthy_bool ⟨H1, I1, q⟩

/-! ### and, or, not -/
variable {tA tB' : TT} {rest : List Expr}
def tAnd (t u : TT) : TT := fun σ H Q => t σ H fun c H1 => if c = true then u σ H1 Q else Q false H1
def tOr (t u : TT) : TT := fun σ H Q => t σ H fun c H1 => if c = true then Q true H1 else u σ H1 Q
def tNot (t : TT) : TT := fun σ H Q => t σ H fun c H1 => Q (!c) H1
theorem pw_and1 (ha : PT X a tA) : PW X (.BoolOp .And [a] pos) tA := by
  intro wh pins s σ H Q I h
  refine isTrue_and (thn (ha pins s σ H Q I h) fun c s1 e => ?_)
  cases c with
  | true => exact isTrue_and_nil e
  | false => exact e
theorem pw_or1 (ha : PT X a tA) : PW X (.BoolOp .Or [a] pos) tA := by
  intro wh pins s σ H Q I h
  refine isTrue_or (thn (ha pins s σ H Q I h) fun c s1 e => ?_)
  cases c with
  | false => exact isTrue_or_nil e
  | true => exact e
theorem pw_and (ha : PT X a tA) (hb : PW X (.BoolOp .And (b :: rest) pos) tB') : PW X (.BoolOp .And (a :: b :: rest) pos) (tAnd tA tB') := by
  intro wh pins s σ H Q I h
  refine isTrue_and (thn (ha pins s σ H _ I h) fun c s1 ⟨H1, I1, q1⟩ => ?_)
  cases c with
  | true => exact hb wh pins s1 σ H1 Q I1 q1
  | false => exact ⟨H1, I1, q1⟩
theorem pw_or (ha : PT X a tA) (hb : PW X (.BoolOp .Or (b :: rest) pos) tB') : PW X (.BoolOp .Or (a :: b :: rest) pos) (tOr tA tB') := by
  intro wh pins s σ H Q I h
  refine isTrue_or (thn (ha pins s σ H _ I h) fun c s1 ⟨H1, I1, q1⟩ => ?_)
  cases c with
  | true => exact ⟨H1, I1, q1⟩
  | false => exact hb wh pins s1 σ H1 Q I1 q1
theorem pt_not (ha : PT X a tA) : PT X (.UnaryOp .Not a pos) (tNot tA) := by
  intro pins s σ H Q I h
  exact isTrue_not (ha pins s σ H (fun c H1 => Q (!c) H1) I h)
/-- .. as values (bools) -/
def tAndV (ta tb : TE) : TE := fun σ H Q => ta σ H fun x H1 => ∃ c, x = .bl c ∧ if c = true then tb σ H1 Q else Q (.bl false) H1
def tNotV (ta : TE) : TE := fun σ H Q => ta σ H fun x H1 => ∃ c, x = .bl c ∧ Q (.bl (!c)) H1
theorem pe_one {op} {t : TE} (h : PE X a t) : PE X (.BoolOp op [a] pos) t := fun pins s σ H Q I hw => BoolOp_one (h pins s σ H Q I hw)
theorem pe_and (ha : PE X a ta) (hb : PE X (.BoolOp .And (b :: rest) pos) tb) : PE X (.BoolOp .And (a :: b :: rest) pos) (tAndV ta tb) := by
  intro pins s σ H Q I h
  refine BoolOp_and (thn (ha pins s σ H _ I h) fun v s1 ⟨x, H1, I1, r1, q1⟩ => ?_)
  obtain ⟨c, rfl, q1⟩ := q1
  cases r1
  refine wpAny_truthy_bool ?_
  cases c with
  | true => exact hb pins s1 σ H1 Q I1 q1
  | false => exact ⟨.bl false, H1, I1, rfl, q1⟩
theorem pe_not (ha : PE X a ta) : PE X (.UnaryOp .Not a pos) (tNotV ta) := by
  intro pins s σ H Q I h
  refine UnaryOp_ (thn (ha pins s σ H _ I h) fun v s1 ⟨x, H1, I1, r1, q1⟩ => ?_)
  obtain ⟨c, rfl, q1⟩ := q1
  cases r1
  exact not_of (wpAny_truthy_bool ⟨.bl (!c), H1, I1, rfl, q1⟩)
/-- a if t else b -/
def tIf (t : TT) (ta tb : TE) : TE := fun σ H Q => t σ H fun c H1 => if c = true then ta σ H1 Q else tb σ H1 Q
theorem pe_ifExp {c : Expr} (hc : PT X c tA) (ha : PE X a ta) (hb : PE X b tb) : PE X (.IfExp c a b pos) (tIf tA ta tb) := by
  intro pins s σ H Q I h
  refine wpAny_IfExp (thn (hc pins s σ H _ I h) fun d s1 ⟨H1, I1, q1⟩ => ?_)
  cases d with
  | true => exact ha pins s1 σ H1 Q I1 q1
  | false => exact hb pins s1 σ H1 Q I1 q1
end
end L2

namespace L2
open PySem PySem.Spec PyProof.Rows

/-! ### a list, a tuple that is read: tracked, frozen, or an object of the module -/
def SqL (K : PySem.W.Frag) (H : Hp) (a : Addr) (xs : List V) : Prop :=
  Rd H a (.lst xs) ∨
    ∃ (o : Obj) (its : Array Value) (n : Nat), K.lookup a = some o ∧ o.cls = .type "list" ∧ o.dict = none ∧ o.data = .seq its n ∧ its.size ≤ sizeLine ∧ Vals xs its.toList
def SqT (K : PySem.W.Frag) (H : Hp) (a : Addr) (xs : List V) : Prop :=
  Rd H a (.tup xs) ∨
    ∃ (o : Obj) (its : Array Value) (n : Nat), K.lookup a = some o ∧ o.cls = .type "tuple" ∧ o.data = .seq its n ∧ its.size ≤ sizeLine ∧ Vals xs its.toList
def absV : Value → Option V
  | .none => some .non
  | .bool b => some (.bl b)
  | .int i _ => some (.int i)
  | .str x _ => some (.str x)
  | .bytes b _ => some (.byt b)
  | .float b _ => some (.flt b)
  | .ref a => some (.ref a)
  | .type n => some (.ty n)
  | _ => none
theorem RelV.abs {x : V} {u : Value} (r : RelV x u) : absV u = some x := by
  cases x with
  | non => cases r; rfl
  | bl _ => cases r; rfl
  | int _ => obtain ⟨t, rfl⟩ := r; rfl
  | str _ => obtain ⟨t, rfl⟩ := r; rfl
  | byt _ => obtain ⟨t, rfl⟩ := r; rfl
  | flt _ => obtain ⟨t, rfl⟩ := r; rfl
  | ref _ => cases r; rfl
  | ty _ => cases r; rfl
theorem RelV.inj {x y : V} {u : Value} (r : RelV x u) (q : RelV y u) : x = y := Option.some.inj (r.abs.symm.trans q.abs)
theorem Vals.inj {xs ys : List V} {us : List Value} (h : Vals xs us) (h' : Vals ys us) : xs = ys := by
  induction h generalizing ys with
  | nil => cases h'; rfl
  | cons r t ih => cases h' with
    | cons r' t' => rw [r.inj r', ih t']
section
variable {X : Cx} {pins : List (Addr × Obj)} {σ : St} {H : Hp} {s : Shared} {a : Addr} {xs ys : List V}
theorem SqL.of {K : PySem.W.Frag} (h : H a = some (.lst xs)) : SqL K H a xs := .inl (.inl h)
theorem SqT.of {K : PySem.W.Frag} (h : H a = some (.tup xs)) : SqT K H a xs := .inl (.inl h)
theorem Inv.list (I : Inv X pins σ H s) (h : SqL X.K H a xs) : ∃ its : List Value, Vals xs its ∧ PlainL s.heap a its.toArray ∧ xs.length ≤ sizeLine := by
  rcases h with h | ⟨o, its, n, hk, hc, hd, hs, hz, r⟩
  · obtain ⟨z, its, n, r, e⟩ := h.ok I.hok
    exact ⟨its, r, ⟨_, n, e, rfl, rfl, rfl⟩, z⟩
  · refine ⟨its.toList, r, ⟨o, n, I.kIn a o hk, hc, hd, by simpa using hs⟩, ?_⟩
    have e := r.length
    simp only [Array.length_toList] at e
    omega
theorem Inv.tuple (I : Inv X pins σ H s) (h : SqT X.K H a xs) : ∃ its : List Value, Vals xs its ∧ IsTup s.heap a its.toArray ∧ xs.length ≤ sizeLine := by
  rcases h with h | ⟨o, its, n, hk, hc, hs, hz, r⟩
  · obtain ⟨z, its, r, p⟩ := h.ok I.hok
    exact ⟨its, r, p, z⟩
  · refine ⟨its.toList, r, ⟨o, I.kIn a o hk, hc, n, by simpa using hs⟩, ?_⟩
    have e := r.length
    simp only [Array.length_toList] at e
    omega
theorem Inv.list_inj (I : Inv X pins σ H s) (h : SqL X.K H a xs) (h' : SqL X.K H a ys) : xs = ys := by
  obtain ⟨its, r, ⟨o, n, e, _, _, d⟩, _⟩ := I.list h
  obtain ⟨its', r', ⟨o', n', e', _, _, d'⟩, _⟩ := I.list h'
  rw [e] at e'; cases e'
  rw [d] at d'
  injection d' with d1 _
  have : its = its' := by simpa using congrArg Array.toList d1
  subst this
  exact r.inj r'
theorem Inv.tuple_inj (I : Inv X pins σ H s) (h : SqT X.K H a xs) (h' : SqT X.K H a ys) : xs = ys := by
  obtain ⟨its, r, ⟨o, e, _, n, d⟩, _⟩ := I.tuple h
  obtain ⟨its', r', ⟨o', e', _, n', d'⟩, _⟩ := I.tuple h'
  rw [e] at e'; cases e'
  rw [d] at d'
  injection d' with d1 _
  have : its = its' := by simpa using congrArg Array.toList d1
  subst this
  exact r.inj r'
end

/-! ### another wish about exceptions -/
abbrev Cx.wish (X : Cx) (E : Value → Shared → Prop) : Cx := { X with xe := E }
/-- no exception leaves -/
abbrev Cx.nox (X : Cx) : Cx := X.wish fun _ _ => False
theorem Cx.Ok.wish {X : Cx} (ok : X.Ok) (E : Value → Shared → Prop) : (X.wish E).Ok :=
  ⟨ok.mod, ok.kind, ok.glob, ok.blt, ok.above, ok.inj, ok.has, ok.cab, ok.hd, ok.frames, ok.stk, ok.exf, ok.bs, ok.bsz, ok.noex, ok.exfs, ok.funs, ok.frf⟩
theorem Cx.Ok.unwish {X : Cx} {E : Value → Shared → Prop} (ok : (X.wish E).Ok) : X.Ok :=
  ⟨ok.mod, ok.kind, ok.glob, ok.blt, ok.above, ok.inj, ok.has, ok.cab, ok.hd, ok.frames, ok.stk, ok.exf, ok.bs, ok.bsz, ok.noex, ok.exfs, ok.funs, ok.frf⟩
section
variable {X : Cx} {pins : List (Addr × Obj)} {σ : St} {H : Hp} {s : Shared} {E : Value → Shared → Prop}
theorem Inv.wish (I : Inv X pins σ H s) (E : Value → Shared → Prop) : Inv (X.wish E) pins σ H s := ⟨I.ok.wish E, I.os, I.bare, I.base, I.loc, I.cell, I.free, I.freeC, I.pin, I.hok, I.len⟩
theorem Inv.unwish (I : Inv (X.wish E) pins σ H s) : Inv X pins σ H s := ⟨I.ok.unwish, I.os, I.bare, I.base, I.loc, I.cell, I.free, I.freeC, I.pin, I.hok, I.len⟩
theorem SP.unwish {D : Ends} {f : Flow} {s' : Shared} (h : SP (X.wish E) pins D f s') : SP X pins D f s' := by
  cases f with
  | next => obtain ⟨σ', H', I, q⟩ := h; exact ⟨σ', H', I.unwish, q⟩
  | brk => obtain ⟨σ', H', I, q⟩ := h; exact ⟨σ', H', I.unwish, q⟩
  | cont => obtain ⟨σ', H', I, q⟩ := h; exact ⟨σ', H', I.unwish, q⟩
  | ret u => obtain ⟨v, σ', H', I, r, q⟩ := h; exact ⟨v, σ', H', I.unwish, r, q⟩
theorem PSs.nox {st : List Stmt} {t : TS} (h : PSs X.nox st t) : PSs X st t := fun pins s σ H D I hw =>
  wpAny_mono (h pins s σ H D (I.wish _) hw) (fun _ _ q => q.unwish) fun _ _ z => False.elim z
end

/-! ### blocks and small statements -/
section
variable {X : Cx} {st : Stmt} {rest : List Stmt} {t u : TS} {e : Expr} {te : TE} {pos : Pos}
def tNext : TS := fun D σ H => D.nx σ H
def tSeq (t u : TS) : TS := fun D σ H => t { D with nx := u D } σ H
theorem pss_nil : PSs X [] tNext := fun _ _ σ H _ I h => wpAny_execs_nil ⟨σ, H, I, h⟩
theorem pss_cons (h1 : PS X st t) (h2 : PSs X rest u) : PSs X (st :: rest) (tSeq t u) := by
  intro pins s σ H D I h
  refine wpAny_execs_cons (thn (h1 pins s σ H { D with nx := u D } I h) fun f s1 q => ?_)
  cases f with
  | next =>
    obtain ⟨σ', H', I', q⟩ := q
    exact h2 pins s1 σ' H' D I' q
  | ret v => exact q
  | brk => exact q
  | cont => exact q
theorem pss_one (h1 : PS X st t) : PSs X [st] t := by
  intro pins s σ H D I h
  refine wpAny_execs_cons (thn (h1 pins s σ H D I h) fun f s1 q => ?_)
  cases f with
  | next => exact wpAny_execs_nil q
  | ret v => exact q
  | brk => exact q
  | cont => exact q
/-- in a def's body nothing is shown -/
theorem Inv.quiet {pins : List (Addr × Obj)} {σ : St} {H : Hp} {s : Shared} (I : Inv X pins σ H s) : interactive X.env = false := by simp [interactive, I.ok.kind]
/-- an expression whose value is dropped -/
def tDrop (te : TE) : TS := fun D σ H => te σ H fun _ H1 => D.nx σ H1
theorem ps_expr (he : PE X e te) (hs : swapsWith e none pos.line X.env = pure false := by rfl) : PS X (.Expr e pos) (tDrop te) := by
  intro pins s σ H D I h
  exact wpAny_Expr_any (thn (he pins s σ H _ I h) fun v s1 ⟨x, H1, I1, r1, q1⟩ => ⟨σ, H1, I1, q1⟩) I.quiet hs
def tRet (te : TE) : TS := fun D σ H => te σ H D.rt
theorem ps_ret (he : PE X e te) : PS X (.Return (some e) pos) (tRet te) := by
  intro pins s σ H D I h
  exact wpAny_Return_some (thn (he pins s σ H _ I h) fun v s1 ⟨x, H1, I1, r1, q1⟩ => ⟨x, σ, H1, I1, r1, q1⟩)
def tRetN : TS := fun D _ H => D.rt .non H
theorem ps_retN : PS X (.Return none pos) tRetN := fun _ _ σ H _ I h => wpAny_Return_none ⟨.non, σ, H, I, rfl, h⟩
def tIfS (c : TT) (t u : TS) : TS := fun D σ H => c σ H fun b H1 => if b = true then t D σ H1 else u D σ H1
theorem ps_if {c : Expr} {a b : List Stmt} {tc : TT} (hc : PT X c tc) (ha : PSs X a t) (hb : PSs X b u) : PS X (.If c a b pos) (tIfS tc t u) := by
  intro pins s σ H D I h
  refine wpAny_If (thn (hc pins s σ H _ I h) fun d s1 ⟨H1, I1, q1⟩ => ?_)
  cases d with
  | true => exact ha pins s1 σ H1 D I1 q1
  | false => exact hb pins s1 σ H1 D I1 q1
end

/-! ### targets -/
abbrev TG := V → St → Hp → (St → Hp → Prop) → Prop
abbrev TGs := List V → St → Hp → (St → Hp → Prop) → Prop
def PG (X : Cx) (target : Expr) (t : TG) : Prop :=
  ∀ (pins : List (Addr × Obj)) (s : Shared) (σ : St) (H : Hp) (v : V) (u : Value) (Q : St → Hp → Prop), Inv X pins σ H s → RelV v u → t v σ H Q →
    wpAny (model X.prog X.w) X.A (assign target X.env u) (fun _ s' => ∃ σ' H', Inv X pins σ' H' s' ∧ Q σ' H') X.xe s
/-- several targets, one after another -/
def PGs (X : Cx) (ts : List Expr) (t : TGs) : Prop :=
  ∀ (pins : List (Addr × Obj)) (s : Shared) (σ : St) (H : Hp) (vs : List V) (us : List Value) (Q : St → Hp → Prop), Inv X pins σ H s → Vals vs us → t vs σ H Q →
    wpAny (model X.prog X.w) X.A (assignInOrder ((assignEach ts X.env).map (·.2)) us) (fun _ s' => ∃ σ' H', Inv X pins σ' H' s' ∧ Q σ' H') X.xe s
/-- o[i] = v, by values -/
abbrev TSet := V → V → V → Hp → (Hp → Prop) → Prop
def PSet (X : Cx) (t : TSet) : Prop :=
  ∀ (pins : List (Addr × Obj)) (s : Shared) (σ : St) (H : Hp) (o i v : V) (ov iv u : Value) (Q : Hp → Prop), Inv X pins σ H s → RelV o ov → RelV i iv → RelV v u → t o i v H Q →
    wpAny (model X.prog X.w) X.A (setItem ov iv u) (fun _ s' => ∃ H', Inv X pins σ H' s' ∧ Q H') X.xe s
/-- a op= b, by values -/
abbrev TIp := V → V → Hp → VK → Prop
def PIp (X : Cx) (op : Operator) (t : TIp) : Prop :=
  ∀ (pins : List (Addr × Obj)) (s : Shared) (σ : St) (H : Hp) (x y : V) (v u : Value) (Q : VK), Inv X pins σ H s → RelV x v → RelV y u → t x y H Q →
    wpAny (model X.prog X.w) X.A (inplaceOp op v u) (EP X pins σ Q) X.xe s
section
variable {X : Cx} {pos : Pos}
def gName (i : Nat) : TG := fun v σ H Q => Q (σ.set i (some v)) H
theorem pg_name {i : Nat} {x : Str} (hN : X.N.Nodup) (hi : X.N[i]? = some x) (hx : Loc X.env.scope x) (hf : X.fn x = true ∨ X.env.scope.names.lookup x = some .local := by first | exact .inl rfl | exact .inr rfl | assumption) : PG X (.Name x pos) (gName i) := by
  intro pins s σ H v u Q I r h
  exact wpAny_assign_Name (store_ok I hN hi hx r (fun s' I' => ⟨_, H, I', h⟩) hf)
def gNil : TGs := fun vs σ H Q => vs = [] ∧ Q σ H
def gCons (t : TG) (u : TGs) : TGs := fun vs σ H Q => ∃ v r, vs = v :: r ∧ t v σ H fun σ' H' => u r σ' H' Q
theorem pgs_nil : PGs X [] gNil := by
  intro pins s σ H vs us Q I r h
  obtain ⟨e, h⟩ := h
  subst e
  cases r
  exact assignInOrder_nil ⟨σ, H, I, h⟩
theorem pgs_cons {e : Expr} {es : List Expr} {t : TG} {u : TGs} (h1 : PG X e t) (h2 : PGs X es u)
    (hs : (assignEach (e :: es) X.env).map (·.2) = assign e X.env :: (assignEach es X.env).map (·.2) := by rfl) : PGs X (e :: es) (gCons t u) := by
  intro pins s σ H vs us Q I r h
  obtain ⟨v, vr, e1, h⟩ := h
  subst e1
  cases r with
  | cons r rr =>
    rw [hs]
    refine assignInOrder_cons (thn (h1 pins s σ H _ _ _ I r h) fun _ s1 ⟨σ1, H1, I1, q1⟩ => ?_)
    exact h2 pins s1 σ1 H1 _ _ Q I1 rr q1
/-- (a, b, ..) = a tuple of that length -/
def gTup (K : PySem.W.Frag) (n : Nat) (t : TGs) : TG := fun v σ H Q => ∃ a xs, v = .ref a ∧ SqT K H a xs ∧ xs.length = n ∧ t xs σ H Q
theorem pg_tup {es : List Expr} {k : Nat} {t : TGs} {n : Nat} (hc : X.calm = true) (h : PGs X es t)
    (hn : (assignEach es X.env).length = n := by rfl) (hst : (assignEach es X.env).findIdx? (·.1) = none := by rfl) : PG X (.Tuple es k pos) (gTup X.K n t) := by
  intro pins s σ H v u Q I r hw
  obtain ⟨a, xs, e1, hq, hl, hw⟩ := hw
  subst e1
  cases r
  obtain ⟨its, rv, ht, hz⟩ := I.tuple hq
  refine assign_Tuple_tuple (I.ok.hd hc) ht (by simp [hn, ← hl, rv.length]) hst fun h' hx => ?_
  have I1 : Inv X pins σ H { s with heap := h' } := I.kept (t' := s.toks) fun b o e => hx b o (Nat.ne_of_lt (Heap.lt_size e)) e
  exact h pins _ σ H xs _ Q I1 (by simpa using rv) hw
/-- o[i] = .. -/
def gSub (to ti : TE) (t : TSet) : TG := fun v σ H Q => to σ H fun o H1 => ti σ H1 fun i H2 => t o i v H2 fun H3 => Q σ H3
theorem pg_sub {o i : Expr} {to ti : TE} {t : TSet} (ho : PE X o to) (hi : PE X i ti) (hs : PSet X t)
    (ha : ∀ v, assign (.Subscript o i pos) X.env v = (do
      let ov ← holding [v] (eval o X.env)
      let iv ← holding [v, ov] (eval i X.env)
      standAt pos
      holding [v, ov, iv] (setItem ov iv v)
      release [v, ov, iv] []) := by intro _; rfl) : PG X (.Subscript o i pos) (gSub to ti t) := by
  intro pins s σ H v u Q I r h
  rw [ha]
  refine wpAny_bind (wpAny_holding (thn (ho pins s σ H _ I h) fun ov s1 ⟨x, H1, I1, r1, q1⟩ => ?_))
  refine wpAny_bind (wpAny_holding (thn (hi pins s1 σ H1 _ I1 q1) fun iv s2 ⟨y, H2, I2, r2, q2⟩ => ?_))
  refine wpAny_bind (wpAny_standAt (wpAny_bind (wpAny_holding (thn (hs pins s2 σ H2 x y v ov iv u _ I2 r1 r2 r q2) fun _ s3 ⟨H3, I3, q3⟩ => ?_))))
  exact wpAny_release ⟨σ, H3, I3, q3⟩
/-- target = value -/
def tAsg (te : TE) (g : TG) : TS := fun D σ H => te σ H fun x H1 => g x σ H1 D.nx
theorem ps_asg {tg e : Expr} {te : TE} {g : TG} (he : PE X e te) (hg : PG X tg g) (hs : swapsWithSole [tg] e pos.line X.env = pure false := by rfl) (hw : swappedStores [tg] e X.env = pure none := by rfl)
    (h1 : (assignEach [tg] X.env).map (·.2) = [assign tg X.env] := by rfl) : PS X (.Assign [tg] e pos) (tAsg te g) := by
  intro pins s σ H D I h
  refine wpAny_Assign_stores (thn (he pins s σ H _ I h) fun v s1 ⟨x, H1, I1, r1, q1⟩ => ?_) hs hw
  rw [h1]
  exact thn (hg pins s1 σ H1 x v _ I1 r1 q1) fun _ s2 q => q
/-- name = value -/
theorem ps_set {i : Nat} {x : Str} {e : Expr} {te : TE} {pos' : Pos} (hN : X.N.Nodup) (hi : X.N[i]? = some x) (hx : Loc X.env.scope x) (he : PE X e te) (hs : swapsWith e (some (.Name x pos')) pos.line X.env = pure false := by rfl) (hf : X.fn x = true ∨ X.env.scope.names.lookup x = some .local := by first | exact .inl rfl | exact .inr rfl | assumption) :
    PS X (.Assign [.Name x pos'] e pos) (tAsg te (gName i)) := by
  intro pins s σ H D I h
  refine wpAny_Assign_Name (thn (he pins s σ H _ I h) fun v s1 ⟨y, H1, I1, r1, q1⟩ => ?_) hs
  exact store_ok I1 hN hi hx r1 (fun s2 I2 => ⟨_, H1, I2, q1⟩) hf
/-- name op= e -/
def tAug (i : Nat) (te : TE) (ti : TIp) : TS := fun D σ H => ∃ x, σ[i]? = some (some x) ∧ te σ H fun y H1 => ti x y H1 fun z H2 => D.nx (σ.set i (some z)) H2
theorem ps_aug {i : Nat} {x : Str} {e : Expr} {te : TE} {op : Operator} {ti : TIp} {pos' : Pos} (hN : X.N.Nodup) (hi : X.N[i]? = some x) (hx : Loc X.env.scope x) (he : PE X e te) (ho : PIp X op ti) (hf : X.fn x = true ∨ X.env.scope.names.lookup x = some .local := by first | exact .inl rfl | exact .inr rfl | assumption) :
    PS X (.AugAssign (.Name x pos') op e pos) (tAug i te ti) := by
  intro pins s σ H D I h
  obtain ⟨v, e1, h⟩ := h
  obtain ⟨m, hn, hl⟩ := I.loc
  have vis : Vis X.env.scope x := by rcases hx with k | k; exact .inl k; exact .inr (.inl k)
  obtain ⟨u, r, l⟩ := hl i x v hi e1 vis
  refine wpAny_AugAssign_Name ?_
  have go : wpAny (model X.prog X.w) X.A (eval e X.env) (fun w s₂ => wpAny (model X.prog X.w) X.A (inplaceOp op u w) (fun r s₃ => wpAny (model X.prog X.w) X.A (storeName X.env x r) (fun _ => SP X pins D .next) X.xe s₃) X.xe s₂) X.xe s := by
    refine thn (he pins s σ H _ I h) fun w s1 ⟨y, H1, I1, r1, q1⟩ => ?_
    refine thn (ho pins s1 σ H1 v y u w _ I1 r r1 q1) fun z s2 ⟨zv, H2, I2, r2, q2⟩ => ?_
    exact store_ok I2 hN hi hx r2 (fun s3 I3 => ⟨_, H2, I3, q2⟩) hf
  rcases l with ⟨hk, hm⟩ | ⟨hk, c, hc, hcell⟩
  · exact wpAny_loadName_local I.ok.kind hk hn hm go
  · rcases hk with hk | hk
    · exact wpAny_loadName_cell I.ok.kind hk hc hcell go
    · rcases hx with k | k
      · have : X.env.scope.names.lookup x = some .free := hk
        rw [k] at this; cases this
      · have : X.env.scope.names.lookup x = some .free := hk
        rw [k] at this; cases this
/-- ints -/
def ipI (f : Int → Int → Int) : TIp := fun x y H Q => ∃ i j, x = .int i ∧ y = .int j ∧ Q (.int (f i j)) H
theorem ip_add : PIp X .Add (ipI fun i j => i + j) := by
  intro pins s σ H x y v u Q I r1 r2 h
  obtain ⟨i, j, e1, e2, q⟩ := h
  subst e1; subst e2
  obtain ⟨t, rfl⟩ := r1
  obtain ⟨t', rfl⟩ := r2
  exact iadd_int ⟨.int _, H, I.tok _, ⟨_, rfl⟩, q⟩
end

/-! ### while -/
section
variable {X : Cx} {pos : Pos}
/-- the invariant W with its measure -/
def tWhile (c : TT) (tb : TS) : TS := fun D σ H => ∃ W : Nat → St → Hp → Prop, (∃ m, W m σ H) ∧ ∀ m σ H, W m σ H →
  c σ H fun b H1 => if b = true then ∃ N : St → Hp → Prop, (∀ σ' H', N σ' H' → ∃ m', m' < m ∧ W m' σ' H') ∧ tb { D with nx := N, ct := N, bk := D.nx } σ H1 else D.nx σ H1
theorem ps_while {c : Expr} {body : List Stmt} {tc : TT} {tb : TS} (hp : PassesOwn (model X.prog X.w) X.A X.env X.xe) (hc : PT X c tc) (hb : PSs X body tb) : PS X (.While c body [] pos) (tWhile tc tb) := by
  intro pins s σ H D I h
  obtain ⟨W, ⟨m0, w0⟩, turn⟩ := h
  refine wpAny_While (codeAny_whileLoop (fun n s' => ∃ σ' H', Inv X pins σ' H' s' ∧ W n σ' H') ?_ m0 ⟨σ, H, I, w0⟩)
  rintro n s1 ⟨σ1, H1, I1, w1⟩
  refine wpAny_passesOwn hp (thn (hc pins s1 σ1 H1 _ I1 (turn n σ1 H1 w1)) fun b s2 ⟨H2, I2, q2⟩ => ?_)
  cases b with
  | true =>
    obtain ⟨N, hN, q2⟩ := q2
    rw [if_pos rfl]
    refine wpAny_passesOwn hp (thn (hb pins s2 σ1 H2 _ I2 q2) fun f s3 q3 => ?_)
    cases f with
    | next =>
      obtain ⟨σ3, H3, I3, n3⟩ := q3
      obtain ⟨m', hm, w3⟩ := hN σ3 H3 n3
      exact ⟨m', hm, σ3, H3, I3, w3⟩
    | cont =>
      obtain ⟨σ3, H3, I3, n3⟩ := q3
      obtain ⟨m', hm, w3⟩ := hN σ3 H3 n3
      exact ⟨m', hm, σ3, H3, I3, w3⟩
    | brk => exact q3
    | ret v => exact q3
  | false =>
    rw [if_neg Bool.false_ne_true]
    exact wpAny_execs_nil ⟨σ1, H2, I2, q2⟩
end

/-! ### what a loop or a comprehension walks -/
/-- at turn i: it yields x (the heap may grow), or it stops -/
structure It where
  go : Nat → Hp → Prop
  yld : Nat → Hp → V → Hp → Prop
  stop : Nat → Hp → Prop
/-- the iterator's own objects may turn: they are not the frame's, not pinned, younger than the entry (or a comprehension's own) -/
def FpOk (X : Cx) (pins : List (Addr × Obj)) (H : Hp) (b : Addr) : Prop :=
  H b = none ∧ b ≠ X.env.locals ∧ b ∉ X.fs ∧ (b ∈ X.ex ∨ X.s₀.heap.objs.size ≤ b) ∧ (∀ x c, X.env.cells.lookup x = some c → c ≠ b) ∧ ∀ p ∈ X.pn ++ pins, p.1 ≠ b
theorem Inv.fpOk {X : Cx} {pins : List (Addr × Obj)} {σ : St} {H H' : Hp} {s : Shared} {b : Addr} (I : Inv X pins σ H s) (hb : s.heap.objs.size ≤ b) (hn : H' b = none) : FpOk X pins H' b := by
  refine ⟨hn, Nat.ne_of_gt (Nat.lt_of_lt_of_le I.lt hb), I.nofs hb, .inr (Nat.le_trans I.sz hb), fun x c e z => ?_, fun p hp z => ?_⟩
  · obtain ⟨v, q⟩ := I.cell x c e
    exact absurd (Nat.lt_of_lt_of_le q.lt (by rw [z]; exact hb)) (Nat.lt_irrefl _)
  · exact absurd (Nat.lt_of_lt_of_le (Heap.lt_size (I.pin p hp).1) (by rw [z]; exact hb)) (Nat.lt_irrefl _)
structure Turn (P : Program) (w : World) (K : PySem.W.Frag) (tg : Expr) (J : It) (fp : List Addr) (it : Addr) (tn : Nat → Heap → Prop) : Prop where
  mem : it ∈ fp
  obj : ∀ i h, tn i h → ∀ b ∈ fp, ∃ o, h.get? b = some o ∧ ∀ v, o.data ≠ .cell v
  keep : ∀ i h h', tn i h → (∀ b ∈ fp, ∀ o, h.get? b = some o → h'.get? b = some o) → tn i h'
  item : ∀ (X : Cx), X.prog = P → X.w = w → X.K = K → X.calm = true → ∀ (i : Nat) (pins : List (Addr × Obj)) (s : Shared) (σ : St) (H : Hp) (E : Value → Shared → Prop), Inv X pins σ H s → (∀ b ∈ fp, FpOk X pins H b) → tn i s.heap → J.go i H →
    wpAny (model P w) X.A (pyNext (.ref it)) (fun r s1 => ∃ u, r = some u ∧
      wpAny (model P w) X.A (letOwnedTupleGo tg (.ref it) u) (fun _ s2 => ∃ x H', Inv X pins σ H' s2 ∧ RelV x u ∧ J.yld i H x H' ∧ tn (i + 1) s2.heap ∧ ∀ b ∈ fp, H' b = none) E s1) E s
  done : ∀ (X : Cx), X.prog = P → X.w = w → X.K = K → X.calm = true → ∀ (i : Nat) (pins : List (Addr × Obj)) (s : Shared) (σ : St) (H : Hp) (E : Value → Shared → Prop), Inv X pins σ H s → (∀ b ∈ fp, FpOk X pins H b) → tn i s.heap → J.stop i H →
    wpAny (model P w) X.A (pyNext (.ref it)) (fun r s1 => r = none ∧ Inv X pins σ H s1) E s
  self : ∀ (A : Around) (i : Nat) (s : Shared) (Q : Value → Shared → Prop) (E : Value → Shared → Prop), tn i s.heap → Q (.ref it) s → wpAny (model P w) A (pyIter (.ref it)) Q E s
abbrev TI := St → Hp → (It → Hp → Prop) → Prop
/-- an iterator has come -/
def PIE (X : Cx) (pins : List (Addr × Obj)) (σ : St) (tg : Expr) (R : It → Hp → Prop) (itv : Value) (s2 : Shared) : Prop :=
  ∃ (it : Addr) (fp : List Addr) (tn : Nat → Heap → Prop) (J : It) (H' : Hp), itv = .ref it ∧ Inv X pins σ H' s2 ∧ Turn X.prog X.w X.K tg J fp it tn ∧ tn 0 s2.heap ∧ (∀ b ∈ fp, FpOk X pins H' b) ∧ R J H'
def PI (X : Cx) (tg iter : Expr) (wi : TI) : Prop :=
  ∀ (pins : List (Addr × Obj)) (s : Shared) (σ : St) (H : Hp) (R : It → Hp → Prop), Inv X pins σ H s → wi σ H R →
    wpAny (model X.prog X.w) X.A (eval iter X.env) (fun v s1 => wpAny (model X.prog X.w) X.A (pyIter v) (PIE X pins σ tg R) X.xe s1) X.xe s

/-- the step ahead of the store is nothing for an iterator that keeps no tuple -/
theorem go_of {M : Model} {A : Around} {E : Value → Shared → Prop} {s : Shared} {tg : Expr} {it : Addr} {u : Value} {o : Obj} {n : String} {vs : Array Value} {Q : Unit → Shared → Prop} (ho : s.heap.get? it = some o) (hc : o.cls = .type n) (hd : o.data = .fields vs)
    (hn : ["enumerate", "zip", "dict_itemiterator", "dict_reverseitemiterator", "odict_iterator", "itertools.zip_longest", "itertools.pairwise"].contains n = false) (hQ : Q () s) : wpAny M A (letOwnedTupleGo tg (.ref it) u) Q E s := by
  unfold letOwnedTupleGo
  cases tg <;> first
    | exact wpAny_pure hQ
    | (cases u <;> first
        | exact wpAny_pure hQ
        | (refine wpAny_bind (wpAny_load ho ?_)
           rw [hc, hd]
           show wpAny M A (if (["enumerate", "zip", "dict_itemiterator", "dict_reverseitemiterator", "odict_iterator", "itertools.zip_longest", "itertools.pairwise"].contains n && vs[0]? == some (rawInt _)) = true then _ else _) Q E s
           rw [if_neg (by intro h; rw [hn, Bool.false_and] at h; cases h)]
           exact wpAny_pure hQ))

/-- the list at a, as it stands at each turn (a loop may append to it) -/
def Itl (K : PySem.W.Frag) (a : Addr) : It :=
  ⟨fun i H => ∃ xs x, SqL K H a xs ∧ xs[i]? = some x, fun i H x H' => H' = H ∧ ∀ xs, SqL K H a xs → xs[i]? = some x, fun i H => ∃ xs, SqL K H a xs ∧ xs.length ≤ i⟩
/-- lo, lo + 1, .. (n of them) -/
def Itr (lo : Int) (n : Nat) : It := ⟨fun i _ => i < n, fun i H x H' => H' = H ∧ x = .int (lo + i), fun i _ => n ≤ i⟩
theorem turn_list {P : Program} {w : World} {K : PySem.W.Frag} {tg : Expr} (a it : Addr) : Turn P w K tg (Itl K a) [it] it (fun i h => h.IsListIter it a i) where
  mem := by simp
  obj := fun i h st b hb => by
    have e : b = it := by simpa using hb
    subst e
    obtain ⟨o, e, c, d⟩ := st
    exact ⟨o, e, fun v z => by rw [d] at z; cases z⟩
  keep := fun i h h' st k => st.at fun o e => k it (by simp) o e
  item := by
    intro X hP hw hK hc i pins s σ H E I hf st hg
    subst hP hw hK
    obtain ⟨xs, x, hq, hx⟩ := hg
    obtain ⟨its, rv, p, hz⟩ := I.list hq
    obtain ⟨u, hu, ru⟩ := rv.get hx
    obtain ⟨f0, f1, f2, f3, f4, f5⟩ := hf it (by simp)
    refine wpAny_pyNext_list_item st p.isList (x := u) (by simpa using hu) fun h' st' sb => ?_
    have I1 : Inv X pins σ H { s with heap := h' } := I.turned (t' := s.toks) (fun b o hb e => (sb.2 b hb).trans e) f0 f1 f3 f4 f5
    obtain ⟨o, e, c, d⟩ := id st'
    exact ⟨u, rfl, go_of (s := { s with heap := h' }) e c d (by decide) ⟨x, H, I1, ru, ⟨rfl, fun ys hy => by rw [I.list_inj hy hq]; exact hx⟩, st', fun b hb => (hf b hb).1⟩⟩
  done := by
    intro X hP hw hK hc i pins s σ H E I hf st hg
    subst hP hw hK
    obtain ⟨xs, hq, hx⟩ := hg
    obtain ⟨its, rv, p, hz⟩ := I.list hq
    obtain ⟨f0, f1, f2, f3, f4, f5⟩ := hf it (by simp)
    have hl := rv.length
    exact wpAny_pyNext_list_end (I.ok.hd hc) st p.isList (by simp; omega) fun h' eb => ⟨rfl, I.turned (t' := s.toks) (fun b o hb e => eb b o hb e) f0 f1 f3 f4 f5⟩
  self := fun _ _ _ _ _ st h => wpAny_pyIter_listiter st h
theorem turn_range {P : Program} {w : World} {K : PySem.W.Frag} {tg : Expr} (it : Addr) (lo : Int) (n : Nat) : Turn P w K tg (Itr lo n) [it] it (fun i h => IsRangeIter h it (lo + (i : Nat) * 1) ((n : Int) - (i : Nat)) 1) where
  mem := by simp
  obj := fun i h st b hb => by
    have e : b = it := by simpa using hb
    subst e
    exact ⟨_, st, fun v z => by
      have z' : Data.fields _ = Data.cell v := z
      cases z'⟩
  keep := fun i h h' st k => k it (by simp) _ st
  item := by
    intro X hP hw hK hc i pins s σ H E I hf st hg
    subst hP hw hK
    obtain ⟨f0, f1, f2, f3, f4, f5⟩ := hf it (by simp)
    have W := Walks.range (prog := X.prog) (w := X.w) (I.ok.hd hc) it lo 1 n
    refine W.item i s _ _ hg st fun v h' tk hv st' kk => ?_
    obtain ⟨t, rfl⟩ := hv
    have I1 : Inv X pins σ H { s with heap := h', toks := tk } := I.turned (fun b o hb e => kk b o (by simpa using hb) e) f0 f1 f3 f4 f5
    refine ⟨_, rfl, go_of (s := { s with heap := h', toks := tk }) (n := "range_iterator") st' rfl rfl (by decide) ⟨.int (lo + i), H, I1, ⟨t, ?_⟩, ⟨rfl, rfl⟩, st', fun b hb => (hf b hb).1⟩⟩
    rw [Int.mul_one]
  done := by
    intro X hP hw hK hc i pins s σ H E I hf st hg
    subst hP hw hK
    obtain ⟨f0, f1, f2, f3, f4, f5⟩ := hf it (by simp)
    exact wpAny_pyNext_range_end (I.ok.hd hc) st (by have : n ≤ i := hg; omega) fun h' eb => ⟨rfl, I.turned (t' := s.toks) (fun b o hb e => eb b o hb e) f0 f1 f3 f4 f5⟩
  self := fun _ _ _ _ _ st h => wpAny_pyIter_rangeiter st h
end L2

namespace L2
open PySem PySem.Spec PyProof.Rows
section
variable {X : Cx} {tg : Expr}
def iList (K : PySem.W.Frag) (tl : TE) : TI := fun σ H R => tl σ H fun x H1 => ∃ a, x = .ref a ∧ (∃ xs, SqL K H1 a xs) ∧ R (Itl K a) H1
theorem pi_list {l : Expr} {tl : TE} (hl : PE X l tl) : PI X tg l (iList X.K tl) := by
  intro pins s σ H R I h
  refine thn (hl pins s σ H _ I h) fun v s1 ⟨x, H1, I1, r1, q1⟩ => ?_
  obtain ⟨a, e, ⟨xs, hq⟩, q⟩ := q1
  subst e
  cases r1
  obtain ⟨its, rv, p, hz⟩ := I1.list hq
  refine wpAny_pyIter_list p.isList ?_
  refine ⟨s1.heap.objs.size, [s1.heap.objs.size], _, _, H1, rfl, I1.kept (t' := s1.toks) fun b o e => Heap.get?_push_of_some _ e, turn_list a _, ⟨_, Heap.get?_push_size _ rfl, rfl, rfl⟩, fun b hb => ?_, q⟩
  have e : b = s1.heap.objs.size := by simpa using hb
  subst e
  exact I1.fpOk (Nat.le_refl _) (I1.hok.fresh (Nat.le_refl _))
/-- a range object just made, walked -/
theorem range_it {pins : List (Addr × Obj)} {σ : St} {H : Hp} {s : Shared} {R : It → Hp → Prop} {E : Value → Shared → Prop} {lo hi : Int} {t u v : Tok} {tk : Nat} (I : Inv X pins σ H s) (h1 : -(2 ^ 62) ≤ lo) (h2 : lo < 2 ^ 62) (h3 : -(2 ^ 62) ≤ hi) (h4 : hi < 2 ^ 62)
    (q : R (Itr lo (hi - lo).toNat) H) : wpAny (model X.prog X.w) X.A (pyIter (.ref s.heap.objs.size)) (PIE X pins σ tg R) E { s with heap := s.heap.push { cls := .type "range", data := .fields #[.int lo t, .int hi u, .int 1 v] }, toks := tk } := by
  refine wpAny_pyIter_range (IsRange.new ..) (small_one h1 h2 h3 h4) ?_
  have I1 : Inv X pins σ H { s with heap := s.heap.push { cls := .type "range", data := .fields #[.int lo t, .int hi u, .int 1 v] }, toks := tk } := I.kept fun b o e => Heap.get?_push_of_some _ e
  refine ⟨(s.heap.push { cls := .type "range", data := .fields #[.int lo t, .int hi u, .int 1 v] }).objs.size, [(s.heap.push { cls := .type "range", data := .fields #[.int lo t, .int hi u, .int 1 v] }).objs.size], _, _, H, rfl,
    I1.kept (t' := tk) fun b o e => Heap.get?_push_of_some _ e, turn_range _ lo (hi - lo).toNat, ?_, fun b hb => ?_, q⟩
  · have e1 : lo + ((0 : Nat) : Int) * 1 = lo := by simp
    have e2 : (((hi - lo).toNat : Nat) : Int) - ((0 : Nat) : Int) = Builtin.Range.rangeSize lo hi 1 := by rw [rangeSize_one]; split <;> omega
    show IsRangeIter _ _ (lo + ((0 : Nat) : Int) * 1) ((((hi - lo).toNat : Nat) : Int) - ((0 : Nat) : Int)) 1
    rw [e1, e2]
    exact Heap.get?_push_size _ rfl
  · have e : b = (s.heap.push { cls := .type "range", data := .fields #[.int lo t, .int hi u, .int 1 v] }).objs.size := by simpa using hb
    subst e
    exact I1.fpOk (Nat.le_refl _) (I1.hok.fresh (Nat.le_refl _))
def iRng1 (ta : TA) : TI := fun σ H R => ta σ H fun vs H1 => ∃ j : Int, vs = [.int j] ∧ -(2 ^ 62) ≤ j ∧ j < 2 ^ 62 ∧ R (Itr 0 j.toNat) H1
theorem pi_range1 {a : Expr} {ta : TA} {p pos : Pos} (hg : Gl X "range") (hm : X.mg "range" = none) (ha : PA X [a] ta) (hs : starEach [a] X.env = [(false, eval a X.env)] := by rfl) : PI X tg (.Call (.Name "range" p) [a] [] pos) (iRng1 ta) := by
  intro pins s σ H R I h
  refine Call_ (ld_blt I hg hm boot_range (PyProof.Rows.callWith_type1 (thn (ha pos pins s σ H _ I h) fun us s1 ⟨vs, H1, I1, r1, q1⟩ => ?_) hs rfl))
  obtain ⟨j, e, q1, q2, q⟩ := q1
  subst e
  cases r1 with
  | cons r rr =>
    cases rr
    obtain ⟨t, rfl⟩ := r
    exact call_range_1 (range_it I1 (by omega) (by omega) q1 q2 (by simpa using q))
/-! ### for -/
/-- W: the invariant by the turn and a measure; N: what the body is to reach -/
def tFor (wi : TI) (g : TG) (tb : TS) : TS := fun D σ H => wi σ H fun J H1 => ∃ W : Nat → Nat → St → Hp → Prop, (∃ m, W 0 m σ H1) ∧ ∀ i m σ H, W i m σ H →
  (J.stop i H ∧ D.nx σ H) ∨ (J.go i H ∧ ∃ N : St → Hp → Prop, (∀ σ' H', N σ' H' → ∃ m', m' < m ∧ W (i + 1) m' σ' H') ∧ ∀ x H', J.yld i H x H' → g x σ H' fun σ2 H2 => tb { D with nx := N, ct := N, bk := D.nx } σ2 H2)
/-- the records at fp as they stand -/
def pinsAt (fp : List Addr) (h : Heap) : List (Addr × Obj) := fp.filterMap fun b => (h.get? b).map fun o => (b, o)
theorem mem_pinsAt {fp : List Addr} {h : Heap} {b : Addr} {o : Obj} (hb : b ∈ fp) (e : h.get? b = some o) : (b, o) ∈ pinsAt fp h := List.mem_filterMap.mpr ⟨b, hb, by rw [e]; rfl⟩
theorem of_pinsAt {fp : List Addr} {h : Heap} {p : Addr × Obj} (hp : p ∈ pinsAt fp h) : p.1 ∈ fp ∧ h.get? p.1 = some p.2 := by
  obtain ⟨b, hb, e⟩ := List.mem_filterMap.mp hp
  cases q : h.get? b with
  | none => rw [q] at e; cases e
  | some o =>
    rw [q] at e
    have e' : (b, o) = p := Option.some.inj e
    subst e'
    exact ⟨hb, q⟩
theorem Inv.pinned {pins : List (Addr × Obj)} {σ : St} {H : Hp} {s : Shared} {fp : List Addr} (I : Inv X pins σ H s) (hf : ∀ b ∈ fp, FpOk X pins H b) (ho : ∀ b ∈ fp, ∃ o, s.heap.get? b = some o ∧ ∀ v, o.data ≠ .cell v) : Inv X (pins ++ pinsAt fp s.heap) σ H s :=
  I.pins_of fun p hp => (List.mem_append.mp hp).elim (fun z => I.pin p (List.mem_append_right _ z)) fun z => by
    obtain ⟨hb, e⟩ := of_pinsAt z
    obtain ⟨f0, f1, f2, _⟩ := hf p.1 hb
    obtain ⟨o, e', d⟩ := ho p.1 hb
    rw [e] at e'; cases e'
    exact ⟨e, f0, f1, f2, d⟩
theorem Inv.unpinned {pins pl : List (Addr × Obj)} {σ : St} {H : Hp} {s : Shared} (I : Inv X (pins ++ pl) σ H s) : Inv X pins σ H s := I.pins_of fun p hp => I.pin p (List.mem_append_right _ (List.mem_append_left _ hp))
theorem ps_for {iter : Expr} {body : List Stmt} {wi : TI} {g : TG} {tb : TS} {pos : Pos} (hp : PassesOwn (model X.prog X.w) X.A X.env X.xe) (hc : X.calm = true) (hi : PI X tg iter wi) (hg : PG X tg g) (hb : PSs X body tb)
    (hs : ∀ x, foldedSetIterable iter X.env x = pure x := by intro _; rfl) : PS X (.For tg iter body [] pos) (tFor wi g tb) := by
  intro pins s σ H D I h
  refine wpAny_For (thn (hi pins s σ H _ I h) fun v s1 h1 => thn h1 fun itv s2 h2 => ?_) hs
  obtain ⟨it, fp, tn, J, H2, e, I2, T, st2, f2, W, ⟨m0, w0⟩, turn⟩ := h2
  subst e
  -- what stays true of the iterator's objects through the loop
  have stat : ∀ {H' : Hp}, (∀ b ∈ fp, H' b = none) → ∀ b ∈ fp, FpOk X pins H' b := fun hn b hb => ⟨hn b hb, (f2 b hb).2⟩
  refine codeAny_forLoop_any (fun n s' => ∃ i σ' H', Inv X pins σ' H' s' ∧ tn i s'.heap ∧ (∀ b ∈ fp, H' b = none) ∧ W i n σ' H') ?_ m0 ⟨0, σ, H2, I2, st2, fun b hb => (f2 b hb).1, w0⟩
  rintro n s3 ⟨i, σ3, H3, I3, st3, fr3, w3⟩
  rcases turn i n σ3 H3 w3 with ⟨stop, qn⟩ | ⟨go, N, hN, step⟩
  · refine wpAny_passesOwn hp (thn (T.done X rfl rfl rfl hc i pins s3 σ3 H3 X.xe I3 (stat fr3) st3 stop) fun r s4 ⟨hr, I4⟩ => ?_)
    subst hr
    exact wpAny_execs_nil ⟨σ3, H3, I4, qn⟩
  · refine wpAny_passesOwn hp (thn (T.item X rfl rfl rfl hc i pins s3 σ3 H3 X.xe I3 (stat fr3) st3 go) fun r s4 ⟨u, hr, h4⟩ => ?_)
    subst hr
    refine wpAny_passesOwn hp (thn h4 fun _ s5 ⟨x, H5, I5, r5, y5, st5, fr5⟩ => ?_)
    have I5' := I5.pinned (stat fr5) (T.obj _ _ st5)
    refine wpAny_passesOwn hp (thn (hg _ s5 σ3 H5 x u _ I5' r5 (step x H5 y5)) fun _ s6 ⟨σ6, H6, I6, q6⟩ => ?_)
    refine wpAny_passesOwn hp (thn (hb _ s6 σ6 H6 _ I6 q6) fun f s7 q7 => ?_)
    have again : ∀ {σ7 : St} {H7 : Hp}, Inv X (pins ++ pinsAt fp s5.heap) σ7 H7 s7 → N σ7 H7 → ∃ m, m < n ∧ ∃ i σ' H', Inv X pins σ' H' s7 ∧ tn i s7.heap ∧ (∀ b ∈ fp, H' b = none) ∧ W i m σ' H' := fun {σ7 H7} I7 n7 => by
      obtain ⟨m', hm, w7⟩ := hN σ7 H7 n7
      refine ⟨m', hm, i + 1, σ7, H7, I7.unpinned, T.keep _ _ _ st5 fun b hb o e => (I7.pin (b, o) (List.mem_append_right _ (List.mem_append_right _ (mem_pinsAt hb e)))).1, fun b hb => ?_, w7⟩
      obtain ⟨o, e, d⟩ := T.obj _ _ st5 b hb
      exact (I7.pin (b, o) (List.mem_append_right _ (List.mem_append_right _ (mem_pinsAt hb e)))).2.1
    cases f with
    | next => obtain ⟨σ7, H7, I7, n7⟩ := q7; exact again I7 n7
    | cont => obtain ⟨σ7, H7, I7, n7⟩ := q7; exact again I7 n7
    | brk => obtain ⟨σ7, H7, I7, q7⟩ := q7; exact ⟨σ7, H7, I7.unpinned, q7⟩
    | ret v => obtain ⟨x7, σ7, H7, I7, r7, q7⟩ := q7; exact ⟨x7, σ7, H7, I7.unpinned, r7, q7⟩
end

/-! ### the forms one uses -/
/-- over a list that the body leaves as it is -/
theorem for_list {K : PySem.W.Frag} {a : Addr} {xs : List V} {g : TG} {tb : TS} {D : Ends} {σ : St} {H : Hp} (Pv : Nat → St → Hp → Prop) (h0 : Pv 0 σ H) (hl : ∀ i σ H, i ≤ xs.length → Pv i σ H → SqL K H a xs)
    (hs : ∀ i x σ H, xs[i]? = some x → Pv i σ H → g x σ H fun σ2 H2 => tb { D with nx := Pv (i + 1), ct := Pv (i + 1), bk := D.nx } σ2 H2) (hd : ∀ σ H, Pv xs.length σ H → D.nx σ H) :
    ∃ W : Nat → Nat → St → Hp → Prop, (∃ m, W 0 m σ H) ∧ ∀ i m σ H, W i m σ H →
      ((Itl K a).stop i H ∧ D.nx σ H) ∨ ((Itl K a).go i H ∧ ∃ N : St → Hp → Prop, (∀ σ' H', N σ' H' → ∃ m', m' < m ∧ W (i + 1) m' σ' H') ∧ ∀ x H', (Itl K a).yld i H x H' → g x σ H' fun σ2 H2 => tb { D with nx := N, ct := N, bk := D.nx } σ2 H2) := by
  refine ⟨fun i m σ H => m = xs.length - i ∧ i ≤ xs.length ∧ Pv i σ H, ⟨xs.length, by simp, Nat.zero_le _, h0⟩, ?_⟩
  rintro i m σ H ⟨rfl, hi, p⟩
  have q := hl i σ H hi p
  by_cases hlt : i < xs.length
  · refine .inr ⟨⟨xs, xs[i], q, by simp [hlt]⟩, Pv (i + 1), fun σ' H' p' => ⟨xs.length - (i + 1), by omega, rfl, hlt, p'⟩, fun x H' y => ?_⟩
    obtain ⟨e, y⟩ := y
    subst e
    exact hs i x σ _ (y xs q) p
  · have e : i = xs.length := by omega
    subst e
    exact .inl ⟨⟨xs, q, Nat.le_refl _⟩, hd σ H p⟩
theorem for_range {lo : Int} {n : Nat} {g : TG} {tb : TS} {D : Ends} {σ : St} {H : Hp} (Pv : Nat → St → Hp → Prop) (h0 : Pv 0 σ H)
    (hs : ∀ i σ H, i < n → Pv i σ H → g (.int (lo + i)) σ H fun σ2 H2 => tb { D with nx := Pv (i + 1), ct := Pv (i + 1), bk := D.nx } σ2 H2) (hd : ∀ σ H, Pv n σ H → D.nx σ H) :
    ∃ W : Nat → Nat → St → Hp → Prop, (∃ m, W 0 m σ H) ∧ ∀ i m σ H, W i m σ H →
      ((Itr lo n).stop i H ∧ D.nx σ H) ∨ ((Itr lo n).go i H ∧ ∃ N : St → Hp → Prop, (∀ σ' H', N σ' H' → ∃ m', m' < m ∧ W (i + 1) m' σ' H') ∧ ∀ x H', (Itr lo n).yld i H x H' → g x σ H' fun σ2 H2 => tb { D with nx := N, ct := N, bk := D.nx } σ2 H2) := by
  refine ⟨fun i m σ H => m = n - i ∧ i ≤ n ∧ Pv i σ H, ⟨n, by simp, Nat.zero_le _, h0⟩, ?_⟩
  rintro i m σ H ⟨rfl, hi, p⟩
  by_cases hlt : i < n
  · refine .inr ⟨hlt, Pv (i + 1), fun σ' H' p' => ⟨n - (i + 1), by omega, rfl, hlt, p'⟩, fun x H' y => ?_⟩
    obtain ⟨e, y⟩ := y
    subst e y
    exact hs i σ _ hlt p
  · have e : i = n := by omega
    subst e
    exact .inl ⟨Nat.le_refl _, hd σ H p⟩
end L2

namespace L2
open PySem PySem.Spec PyProof.Rows

abbrev R2 := V → V → Hp → VK → Prop
/-- a two-place operation on values: f is binaryOp op, inplaceOp op or compareOp op -/
def OpR (X : Cx) (f : Value → Value → Sem Value) (r : R2) : Prop :=
  ∀ (pins : List (Addr × Obj)) (s : Shared) (σ : St) (H : Hp) (x y : V) (v u : Value) (Q : VK), Inv X pins σ H s → RelV x v → RelV y u → r x y H Q →
    wpAny (model X.prog X.w) X.A (f v u) (EP X pins σ Q) X.xe s
/-- a one-place operation -/
def UnR (X : Cx) (f : Value → Sem Value) (r : V → Hp → VK → Prop) : Prop :=
  ∀ (pins : List (Addr × Obj)) (s : Shared) (σ : St) (H : Hp) (x : V) (v : Value) (Q : VK), Inv X pins σ H s → RelV x v → r x H Q →
    wpAny (model X.prog X.w) X.A (f v) (EP X pins σ Q) X.xe s
/-- a call of a value that is known (a builtin, a type) with values -/
def CallR (X : Cx) (f : Value) (r : List V → Hp → VK → Prop) : Prop :=
  ∀ (pins : List (Addr × Obj)) (s : Shared) (σ : St) (H : Hp) (xs : List V) (us : List Value) (Q : VK), Inv X pins σ H s → Vals xs us → r xs H Q →
    wpAny (model X.prog X.w) X.A (call f us) (EP X pins σ Q) X.xe s
def tOp (r : R2) (ta tb : TE) : TE := fun σ H Q => ta σ H fun x H1 => tb σ H1 fun y H2 => r x y H2 Q
def tUn (r : V → Hp → VK → Prop) (ta : TE) : TE := fun σ H Q => ta σ H fun x H1 => r x H1 Q
/-- ints in, under C, and a value out -/
def rI (C : Int → Int → Prop) (g : Int → Int → V) : R2 := fun x y H Q => ∃ i j, x = .int i ∧ y = .int j ∧ C i j ∧ Q (g i j) H
def rI0 (g : Int → Int → V) : R2 := fun x y H Q => ∃ i j, x = .int i ∧ y = .int j ∧ Q (g i j) H
def rU (g : Int → V) : V → Hp → VK → Prop := fun x H Q => ∃ i, x = .int i ∧ Q (g i) H

section
variable {X : Cx} {a b c : Expr} {ta tb tc : TE} {pos : Pos}

theorem binT (ha : PE X a ta) (hb : PE X b tb) {pins : List (Addr × Obj)} {s : Shared} {σ : St} {H : Hp} {R : V → V → Hp → Prop} (I : Inv X pins σ H s)
    (h : ta σ H fun x H1 => tb σ H1 fun y H2 => R x y H2) {Q : Value → Shared → Prop} {f : Value → Value → Sem Value}
    (hf : ∀ v u s2 x y H2, Inv X pins σ H2 s2 → RelV x v → RelV y u → R x y H2 → wpAny (model X.prog X.w) X.A (f v u) Q X.xe s2) :
    wpAny (model X.prog X.w) X.A (eval a X.env) (fun v s₁ => wpAny (model X.prog X.w) X.A (eval b X.env) (fun u s₂ => wpAny (model X.prog X.w) X.A (f v u) Q X.xe s₂) X.xe s₁) X.xe s := by
  refine thn (ha pins s σ H _ I h) fun v s1 ⟨x, H1, I1, r1, q1⟩ => ?_
  refine thn (hb pins s1 σ H1 _ I1 q1) fun u s2 ⟨y, H2, I2, r2, q2⟩ => ?_
  exact hf v u s2 x y H2 I2 r1 r2 q2

theorem pe_op {op : Operator} {r : R2} (ho : OpR X (binaryOp op) r) (ha : PE X a ta) (hb : PE X b tb) : PE X (.BinOp a op b pos) (tOp r ta tb) := by
  intro pins s σ H Q I h
  exact wpAny_BinOp (binT ha hb I h fun v u s2 x y H2 I2 rx ry q => ho pins s2 σ H2 x y v u Q I2 rx ry q)
theorem pe_un {op : UnaryOp} {r : V → Hp → VK → Prop} (ho : UnR X (unaryOp op) r) (ha : PE X a ta) : PE X (.UnaryOp op a pos) (tUn r ta) := by
  intro pins s σ H Q I h
  exact UnaryOp_ (thn (ha pins s σ H _ I h) fun v s1 ⟨x, H1, I1, r1, q1⟩ => ho pins s1 σ H1 x v Q I1 r1 q1)
/-! ### ints -/
theorem opI {f : Value → Value → Sem Value} {C : Int → Int → Prop} {g : Int → Int → Int}
    (rule : ∀ (i j : Int) (t u : Tok) (s : Shared) (Q : Value → Shared → Prop) (E : Value → Shared → Prop), C i j → Q (.int (g i j) s.toks) { s with toks := s.toks + 1 } → wpAny (model X.prog X.w) X.A (f (.int i t) (.int j u)) Q E s) :
    OpR X f (rI C fun i j => .int (g i j)) := by
  intro pins s σ H x y v u Q I rx ry h
  obtain ⟨i, j, rfl, rfl, hc, q⟩ := h
  obtain ⟨t, rfl⟩ := rx
  obtain ⟨t', rfl⟩ := ry
  exact rule i j t t' s _ _ hc ⟨.int (g i j), H, I.tok _, ⟨_, rfl⟩, q⟩
theorem opI0 {f : Value → Value → Sem Value} {g : Int → Int → Int}
    (rule : ∀ (i j : Int) (t u : Tok) (s : Shared) (Q : Value → Shared → Prop) (E : Value → Shared → Prop), Q (.int (g i j) s.toks) { s with toks := s.toks + 1 } → wpAny (model X.prog X.w) X.A (f (.int i t) (.int j u)) Q E s) :
    OpR X f (rI0 fun i j => .int (g i j)) := by
  intro pins s σ H x y v u Q I rx ry h
  obtain ⟨i, j, rfl, rfl, q⟩ := h
  obtain ⟨t, rfl⟩ := rx
  obtain ⟨t', rfl⟩ := ry
  exact rule i j t t' s _ _ ⟨.int (g i j), H, I.tok _, ⟨_, rfl⟩, q⟩
theorem opB0 {f : Value → Value → Sem Value} {g : Int → Int → Bool}
    (rule : ∀ (i j : Int) (t u : Tok) (s : Shared) (Q : Value → Shared → Prop) (E : Value → Shared → Prop), Q (.bool (g i j)) s → wpAny (model X.prog X.w) X.A (f (.int i t) (.int j u)) Q E s) :
    OpR X f (rI0 fun i j => .bl (g i j)) := by
  intro pins s σ H x y v u Q I rx ry h
  obtain ⟨i, j, rfl, rfl, q⟩ := h
  obtain ⟨t, rfl⟩ := rx
  obtain ⟨t', rfl⟩ := ry
  exact rule i j t t' s _ _ ⟨.bl (g i j), H, I, rfl, q⟩

def CDiv (i j : Int) : Prop := 0 < j ∧ j < 1073741824
def CPow (i j : Int) : Prop := 0 ≤ j ∧ j ≤ 1000000 ∧ i.natAbs < 2 ^ 64
def CMul (i j : Int) : Prop := (-(2 ^ 64) < i ∧ i < 2 ^ 64) ∨ (-(2 ^ 64) < j ∧ j < 2 ^ 64)
theorem CMul.ok {i j : Int} (h : CMul i j) : IntMulOk i j := by
  rcases h with ⟨h1, h2⟩ | ⟨h1, h2⟩
  · exact .of_left (intBits_le_64 h1 h2)
  · exact .of_right (intBits_le_64 h1 h2)
theorem op_add : OpR X (binaryOp .Add) (rI0 fun i j => .int (i + j)) := opI0 fun _ _ _ _ _ _ _ q => add_int q
theorem op_sub : OpR X (binaryOp .Sub) (rI0 fun i j => .int (i - j)) := opI0 fun _ _ _ _ _ _ _ q => sub_int q
theorem op_mul : OpR X (binaryOp .Mult) (rI CMul fun i j => .int (i * j)) := opI fun _ _ _ _ _ _ _ hc q => mul_int q hc.ok
/-- // by a positive divisor -/
theorem op_fdiv : OpR X (binaryOp .FloorDiv) (rI CDiv fun i j => .int (i / j)) := opI fun i j _ _ _ _ _ hc q => by
  have h1 : (0 : Int) < j := hc.1
  have h2 : j < 1073741824 := hc.2
  exact floordiv_int (by omega) (by rw [Int.fdiv_eq_ediv_of_nonneg i (by omega)]; exact q) (.inl (PyProof.noPylong_small (by omega)))
/-- % by a positive divisor of any size -/
theorem op_mod : OpR X (binaryOp .Mod) (rI (fun _ j => 0 < j) fun i j => .int (i % j)) := opI fun i j _ _ _ _ _ hc q => by
  have h1 : (0 : Int) < j := hc
  exact mod_int' (by omega) (by rw [Int.fmod_eq_emod_of_nonneg i (by omega)]; exact q)
theorem op_pow : OpR X (binaryOp .Pow) (rI CPow fun i j => .int (i ^ j.toNat)) := opI fun _ _ _ _ _ _ _ hc q => pow_int_small hc.1 hc.2.1 hc.2.2 q
theorem unI {f : Value → Sem Value} {g : Int → Int}
    (rule : ∀ (i : Int) (t : Tok) (s : Shared) (Q : Value → Shared → Prop) (E : Value → Shared → Prop), Q (.int (g i) s.toks) { s with toks := s.toks + 1 } → wpAny (model X.prog X.w) X.A (f (.int i t)) Q E s) :
    UnR X f (rU fun i => .int (g i)) := by
  intro pins s σ H x v Q I rx h
  obtain ⟨i, rfl, q⟩ := h
  obtain ⟨t, rfl⟩ := rx
  exact rule i t s _ _ ⟨.int (g i), H, I.tok _, ⟨_, rfl⟩, q⟩
theorem un_neg : UnR X (unaryOp .USub) (rU fun i => .int (-i)) := unI fun _ _ _ _ _ q => neg_int q
/-! ### bools among ints: n += (a < b) -/
end

/-! ### comparisons -/
/-- the scalars that == tells apart as data does -/
def scal : V → V → Bool
  | .non, .non => true | .non, .int _ => true | .int _, .non => true | .non, .bl _ => true | .bl _, .non => true | .non, .str _ => true | .str _, .non => true
  | .int _, .int _ => true | .bl _, .bl _ => true | .str _, .str _ => true | .byt _, .byt _ => true
  | .int _, .str _ => true | .str _, .int _ => true | .bl _, .str _ => true | .str _, .bl _ => true
  | _, _ => false
def rEq : R2 := fun x y H Q => scal x y = true ∧ Q (.bl (decide (x = y))) H
def rNe : R2 := fun x y H Q => scal x y = true ∧ Q (.bl (!decide (x = y))) H

theorem dec_int {i j : Int} : decide (V.int i = V.int j) = (i == j) := by
  rw [Bool.eq_iff_iff]
  simp
theorem dec_bl {i j : Bool} : decide (V.bl i = V.bl j) = (i == j) := by
  rw [Bool.eq_iff_iff]
  simp
theorem dec_str {i j : Str} : decide (V.str i = V.str j) = (i == j) := by
  rw [Bool.eq_iff_iff]
  simp
theorem dec_byt {i j : Array UInt8} : decide (V.byt i = V.byt j) = (i.toList == j.toList) := by
  rw [Bool.eq_iff_iff]
  cases i
  cases j
  simp

section
variable {X : Cx} {a b c : Expr} {ta tb tc : TE} {pos : Pos}
theorem fin_bl {pins : List (Addr × Obj)} {σ : St} {H : Hp} {s : Shared} {Q : VK} {k k' : Bool} (I : Inv X pins σ H s) (q : Q (.bl k) H) (e : k = k') : EP X pins σ Q (.bool k') s := by
  subst e
  exact ⟨.bl k, H, I, rfl, q⟩
theorem op_eq : OpR X (compareOp .Eq) rEq := by
  intro pins s σ H x y v u Q I rx ry h
  obtain ⟨hs, q⟩ := h
  cases x with
  | non =>
    cases rx
    cases y with
    | non => cases ry; exact PySem.EqNone.eq_none_none (fin_bl I q (by simp))
    | bl j => cases ry; exact PySem.EqNone.eq_none_bool (fin_bl I q (by simp))
    | int j => obtain ⟨t', rfl⟩ := ry; exact PySem.EqNone.eq_none_int (fin_bl I q (by simp))
    | str j => obtain ⟨t', rfl⟩ := ry; exact PySem.EqNone.eq_none_str (fin_bl I q (by simp))
    | _ => exact absurd (show false = true from hs) Bool.false_ne_true
  | bl i =>
    cases rx
    cases y with
    | non => cases ry; exact PySem.EqNone.eq_bool_none (fin_bl I q (by simp))
    | bl j => cases ry; exact eq_bool (fin_bl I q dec_bl)
    | str j => obtain ⟨t', rfl⟩ := ry; exact PySem.EqMixed.eq_bool_str (fin_bl I q (by simp))
    | _ => exact absurd (show false = true from hs) Bool.false_ne_true
  | int i =>
    obtain ⟨t, rfl⟩ := rx
    cases y with
    | non => cases ry; exact PySem.EqNone.eq_int_none (fin_bl I q (by simp))
    | int j => obtain ⟨t', rfl⟩ := ry; exact eq_int (fin_bl I q dec_int)
    | str j => obtain ⟨t', rfl⟩ := ry; exact PySem.EqMixed.eq_int_str (fin_bl I q (by simp))
    | _ => exact absurd (show false = true from hs) Bool.false_ne_true
  | str i =>
    obtain ⟨t, rfl⟩ := rx
    cases y with
    | non => cases ry; exact PySem.EqNone.eq_str_none (fin_bl I q (by simp))
    | bl j => cases ry; exact PySem.EqMixed.eq_str_bool (fin_bl I q (by simp))
    | int j => obtain ⟨t', rfl⟩ := ry; exact PySem.EqMixed.eq_str_int (fin_bl I q (by simp))
    | str j => obtain ⟨t', rfl⟩ := ry; exact eq_str (fin_bl I q dec_str)
    | _ => exact absurd (show false = true from hs) Bool.false_ne_true
  | byt i =>
    obtain ⟨t, rfl⟩ := rx
    cases y with
    | byt j => obtain ⟨t', rfl⟩ := ry; exact PySem.W.eq_bytes (fin_bl I q dec_byt)
    | _ => exact absurd (show false = true from hs) Bool.false_ne_true
  | _ => cases y <;> exact absurd (show false = true from hs) Bool.false_ne_true
theorem op_ne : OpR X (compareOp .NotEq) rNe := by
  intro pins s σ H x y v u Q I rx ry h
  obtain ⟨hs, q⟩ := h
  cases x with
  | non =>
    cases rx
    cases y with
    | non => cases ry; exact PySem.EqNone.ne_none_none (fin_bl I q (by simp))
    | bl j => cases ry; exact PySem.EqNone.ne_none_bool (fin_bl I q (by simp))
    | int j => obtain ⟨t', rfl⟩ := ry; exact PySem.EqNone.ne_none_int (fin_bl I q (by simp))
    | str j => obtain ⟨t', rfl⟩ := ry; exact PySem.EqNone.ne_none_str (fin_bl I q (by simp))
    | _ => exact absurd (show false = true from hs) Bool.false_ne_true
  | bl i =>
    cases rx
    cases y with
    | non => cases ry; exact PySem.EqNone.ne_bool_none (fin_bl I q (by simp))
    | bl j => cases ry; exact ne_bool (fin_bl I q (congrArg not dec_bl))
    | str j => obtain ⟨t', rfl⟩ := ry; exact PySem.EqMixed.ne_bool_str (fin_bl I q (by simp))
    | _ => exact absurd (show false = true from hs) Bool.false_ne_true
  | int i =>
    obtain ⟨t, rfl⟩ := rx
    cases y with
    | non => cases ry; exact PySem.EqNone.ne_int_none (fin_bl I q (by simp))
    | int j => obtain ⟨t', rfl⟩ := ry; exact ne_int (fin_bl I q (congrArg not dec_int))
    | str j => obtain ⟨t', rfl⟩ := ry; exact PySem.EqMixed.ne_int_str (fin_bl I q (by simp))
    | _ => exact absurd (show false = true from hs) Bool.false_ne_true
  | str i =>
    obtain ⟨t, rfl⟩ := rx
    cases y with
    | non => cases ry; exact PySem.EqNone.ne_str_none (fin_bl I q (by simp))
    | bl j => cases ry; exact PySem.EqMixed.ne_str_bool (fin_bl I q (by simp))
    | int j => obtain ⟨t', rfl⟩ := ry; exact PySem.EqMixed.ne_str_int (fin_bl I q (by simp))
    | str j => obtain ⟨t', rfl⟩ := ry; exact ne_str (fin_bl I q (congrArg not dec_str))
    | _ => exact absurd (show false = true from hs) Bool.false_ne_true
  | byt i =>
    obtain ⟨t, rfl⟩ := rx
    cases y with
    | byt j => obtain ⟨t', rfl⟩ := ry; exact PySem.W.ne_bytes (fin_bl I q (congrArg not dec_byt))
    | _ => exact absurd (show false = true from hs) Bool.false_ne_true
  | _ => cases y <;> exact absurd (show false = true from hs) Bool.false_ne_true

theorem op_lt : OpR X (compareOp .Lt) (rI0 fun i j => .bl (decide (i < j))) := opB0 fun _ _ _ _ _ _ _ q => lt_int q
theorem op_le : OpR X (compareOp .LtE) (rI0 fun i j => .bl (decide (i ≤ j))) := opB0 fun _ _ _ _ _ _ _ q => le_int q
theorem op_gt : OpR X (compareOp .Gt) (rI0 fun i j => .bl (decide (j < i))) := opB0 fun _ _ _ _ _ _ _ q => gt_int q
theorem op_ge : OpR X (compareOp .GtE) (rI0 fun i j => .bl (decide (j ≤ i))) := opB0 fun _ _ _ _ _ _ _ q => ge_int q
/-- is None, is not None: the right side a value none -/
theorem op_isN : OpR X (compareOp .Is) (fun x y H Q => y = .non ∧ Q (.bl (decide (x = .non))) H) := by
  intro pins s σ H x y v u Q I rx ry h
  obtain ⟨rfl, q⟩ := h
  cases ry
  refine is_none_gen (fin_bl I q ?_)
  cases x <;> first
    | (cases rx; rfl)
    | (obtain ⟨t, rfl⟩ := rx; rfl)
theorem op_notN : OpR X (compareOp .IsNot) (fun x y H Q => y = .non ∧ Q (.bl (!decide (x = .non))) H) := by
  intro pins s σ H x y v u Q I rx ry h
  obtain ⟨rfl, q⟩ := h
  cases ry
  refine isnot_none_gen (fin_bl I q ?_)
  cases x <;> first
    | (cases rx; rfl)
    | (obtain ⟨t, rfl⟩ := rx; rfl)

/-- is, is not of two objects that are tracked lists or instances -/
def isObj : HO → Bool
  | .lst _ => true
  | .ins _ _ _ => true
  | _ => false
theorem nomark (b : Expr) {op : CmpOp} (h : op ≠ .In := by decide) (h2 : op ≠ .NotIn := by decide) : behindInMarks op b = false := by
  have e1 : (op == CmpOp.In) = false := by cases op <;> first | rfl | exact absurd rfl h
  have e2 : (op == CmpOp.NotIn) = false := by cases op <;> first | rfl | exact absurd rfl h2
  cases b <;> simp [behindInMarks, e1, e2]
/-- a comparison as a value; hm: nomark b, or (for in, not in) by with_unfolding_all rfl -/
theorem pe_cmpR {op : CmpOp} {r : R2} (ho : OpR X (compareOp op) r) (ha : PE X a ta) (hb : PE X b tb) (hm : behindInMarks op b = false) : PE X (.Compare a [op] [b] pos) (tOp r ta tb) := by
  intro pins s σ H Q I h
  exact wpAny_Compare1 (binT ha hb I h fun v u s2 x y H2 I2 rx ry q => ho pins s2 σ H2 x y v u Q I2 rx ry q) hm
/-- a reading of a value as a test -/
def tTest (t : TE) : TT := fun σ H Q => t σ H fun x H' => ∃ k, x = .bl k ∧ Q k H'
theorem pt_cmpR {op : CmpOp} {r : R2} (ho : OpR X (compareOp op) r) (ha : PE X a ta) (hb : PE X b tb) (hm : behindInMarks op b = false) : PT X (.Compare a [op] [b] pos) (tTest (tOp r ta tb)) := by
  intro pins s σ H Q I h
  refine wpAny_isTrue_Compare1 (thn (ha pins s σ H _ I h) fun v s1 ⟨x, H1, I1, r1, q1⟩ => thn (hb pins s1 σ H1 _ I1 q1) fun u s2 ⟨y, H2, I2, r2, q2⟩ =>
    thn (ho pins s2 σ H2 x y v u _ I2 r1 r2 q2) fun c s3 ⟨z, H3, I3, r3, k, e, q3⟩ => ?_) hm
  subst e
  cases r3
  exact wpAny_truthy_bool ⟨H3, I3, q3⟩
/-- a op1 b op2 c -/
def tChain (r r' : R2) (ta tb tc : TE) : TE := fun σ H Q => ta σ H fun x H1 => tb σ H1 fun y H2 => r x y H2 fun z H3 => ∃ k, z = .bl k ∧
  (if k = true then tc σ H3 fun w' H4 => r' y w' H4 Q else Q (.bl false) H3)
theorem pe_chain {op op' : CmpOp} {r r' : R2} (ho : OpR X (compareOp op) r) (ho' : OpR X (compareOp op') r') (ha : PE X a ta) (hb : PE X b tb) (hc : PE X c tc)
    (hm : lastMarks [op, op'] [b, c] = false := by with_unfolding_all rfl) : PE X (.Compare a [op, op'] [b, c] pos) (tChain r r' ta tb tc) := by
  intro pins s σ H Q I h
  refine Compare_chain (thn (ha pins s σ H _ I h) fun v s1 ⟨x, H1, I1, r1, q1⟩ => chain_link (thn (hb pins s1 σ H1 _ I1 q1) fun u s2 ⟨y, H2, I2, r2, q2⟩ =>
    thn (ho pins s2 σ H2 x y v u _ I2 r1 r2 q2) fun d s3 ⟨z, H3, I3, r3, k, e, q3⟩ => ?_)) hm
  subst e
  cases r3
  refine wpAny_truthy_bool ?_
  cases k with
  | false => exact ite_ff ⟨.bl false, H3, I3, rfl, q3⟩
  | true => exact ite_tt (chain_last (thn (hc pins s3 σ H3 _ I3 q3) fun w' s4 ⟨z', H4, I4, r4, q4⟩ => ho' pins s4 σ H4 y z' u w' Q I4 r2 r4 q4))
/-! ### truth -/
theorem line63 : (sizeLine : Nat) < 2 ^ 63 := by rw [sizeLine_eq]; decide
/-! ### strs and bytes -/
/-! ### scalar builtins, by CallR -/
theorem vals1 {x : V} {us : List Value} (r : Vals [x] us) : ∃ u, us = [u] ∧ RelV x u := by
  cases r with
  | cons r1 r2 => cases r2; exact ⟨_, rfl, r1⟩
theorem vals2 {x y : V} {us : List Value} (r : Vals [x, y] us) : ∃ u w', us = [u, w'] ∧ RelV x u ∧ RelV y w' := by
  cases r with
  | cons r1 r2 =>
    cases r2 with
    | cons r3 r4 => cases r4; exact ⟨_, _, rfl, r1, r3⟩
theorem call_max2 (hc : X.calm = true) : CallR X (.builtin "max") (fun xs H Q => ∃ i j, xs = [.int i, .int j] ∧ Q (.int (if j > i then j else i)) H) := by
  intro pins s σ H xs us Q I r h
  obtain ⟨i, j, rfl, q⟩ := h
  obtain ⟨u, w', rfl, ⟨t, rfl⟩, ⟨t', rfl⟩⟩ := vals2 r
  refine max_two_ints (I.ok.hd hc) fun h' tk k => ⟨_, H, I.kept k, ?_, q⟩
  by_cases hj : j > i
  · rw [if_pos hj, if_pos hj]; exact ⟨_, rfl⟩
  · rw [if_neg hj, if_neg hj]; exact ⟨_, rfl⟩
theorem call_min2 (hc : X.calm = true) : CallR X (.builtin "min") (fun xs H Q => ∃ i j, xs = [.int i, .int j] ∧ Q (.int (if j < i then j else i)) H) := by
  intro pins s σ H xs us Q I r h
  obtain ⟨i, j, rfl, q⟩ := h
  obtain ⟨u, w', rfl, ⟨t, rfl⟩, ⟨t', rfl⟩⟩ := vals2 r
  refine min_two_ints (I.ok.hd hc) fun h' tk k => ⟨_, H, I.kept k, ?_, q⟩
  by_cases hj : j < i
  · rw [if_pos hj, if_pos hj]; exact ⟨_, rfl⟩
  · rw [if_neg hj, if_neg hj]; exact ⟨_, rfl⟩
theorem call_int1 : CallR X (.type "int") (fun xs H Q => (∃ i, xs = [.int i] ∧ Q (.int i) H) ∨ ∃ k, xs = [.bl k] ∧ Q (.int (if k then 1 else 0)) H) := by
  intro pins s σ H xs us Q I r h
  rcases h with ⟨i, rfl, q⟩ | ⟨k, rfl, q⟩
  · obtain ⟨u, rfl, t, rfl⟩ := vals1 r
    exact call_int_int ⟨.int i, H, I, ⟨_, rfl⟩, q⟩
  · obtain ⟨u, rfl, r1⟩ := vals1 r
    cases r1
    exact call_int_bool ⟨.int (if k then 1 else 0), H, I.tok _, ⟨_, rfl⟩, q⟩
end
end L2

namespace L2
open PySem PySem.Spec PyProof.Rows

/-! ### an instance, its attributes a map -/
structure ObjM (h : Heap) (x dx C : Addr) (mA : Str → Option Value) : Prop where
  obj : h.get? x = some (PySem.W.instObj C dx)
  ns : h.Ns1 dx mA
  ne : dx ≠ x

theorem lookIn_ns {h : Heap} {dx : Addr} {mA : Str → Option Value} (n : h.Ns1 dx mA) : ∃ od, h.get? dx = some od ∧ ∀ name, PySem.W.lookIn name od = some (mA name) := by
  obtain ⟨o, es, ep, ho, hd, hk, _, hm⟩ := n
  refine ⟨o, ho, fun name => ?_⟩
  have e := hm name
  unfold nsFind findBy at e
  rw [← Array.find?_toList] at e
  unfold PySem.W.lookIn
  rw [hd]
  dsimp only
  split
  · rename_i y q
    rw [q] at e
    exact congrArg some e
  · rename_i q
    rw [q] at e
    have a : es.toList.any (·.refKey) = false := by
      rw [List.any_eq_false]
      intro y hy
      obtain ⟨z, t, hkey⟩ := hk y (Array.mem_toList_iff.mp hy)
      simp [DictEntry.refKey, hkey]
    have a' : ¬ es.toList.any (·.refKey) = true := by rw [a]; exact Bool.false_ne_true
    rw [if_neg a']
    exact congrArg some e

theorem ObjM.look {h : Heap} {x dx C : Addr} {mA : Str → Option Value} (I : ObjM h x dx C mA) : ∃ od, PySem.W.InstAt h x (PySem.W.instObj C dx) C (some od) ∧ ∀ name, PySem.W.lookIn name od = some (mA name) :=
  let ⟨od, ho, hl⟩ := lookIn_ns I.ns
  ⟨od, ⟨I.obj, rfl, rfl, ho⟩, hl⟩

section
variable {prog : Program} {w : World} {A : Around} {E : Value → Shared → Prop} {s : Shared} {K : PySem.W.Frag} {x dx C f : Addr} {mA : Str → Option Value} {name : Str} {v : Value}

theorem get_map {expr : Bool} {Q : Value → Shared → Prop} (X : K.In s.heap) (I : ObjM s.heap x dx C mA) (hg : PySem.W.plainGet K C name = true) (hh : PySem.W.hasDictIn K C = true)
    (ha : PySem.W.findIn K (.ref C) name = some none) (hv : mA name = some v) (hv' : PySem.W.handedIn v = true) (h : Q v { s with toks := s.toks + 1 }) :
    wpAny (model prog w) A (getAttr (.ref x) name expr) Q E s := by
  obtain ⟨od, J, hl⟩ := I.look
  exact PySem.W.get_value X J (PySem.W.plainGet_of hg).1 (PySem.W.findObj_own hh ha rfl (by rw [hl, hv])) hv' h

theorem get_meth {pl : Sem Bool} {Q : Value × List Value → Shared → Prop} (X : K.In s.heap) (I : ObjM s.heap x dx C mA) (hg : PySem.W.plainGet K C name = true)
    (hf : PySem.W.findIn K (.ref C) name = some (some (.ref f))) (ht : PySem.W.isFn K (.ref f) = true) (hv : mA name = none) (h : Q (.ref f, [.ref x]) s) :
    wpAny (model prog w) A (getMethod (.ref x) name pl) Q E s := by
  obtain ⟨od, J, hl⟩ := I.look
  exact PySem.W.method_fn X J (PySem.W.plainGet_of hg).1 (PySem.W.plainGet_of hg).2 hf (beq_iff_eq.mp ht) (by show (PySem.W.lookIn name od).map (·.isSome) = some false; rw [hl, hv]; rfl) h

theorem set_map {ns : List Str} {Q : Unit → Shared → Prop} (X : K.In s.heap) (I : ObjM s.heap x dx C mA)
    (hs : PySem.W.findIn K (.ref C) "__setattr__" = some (some (.builtin "object.__setattr__"))) (hp : PySem.W.plainOver K C = true) (ht : PySem.W.takerIn K C name = some none) (hh : PySem.W.hasDictIn K C = true)
    (hw : PySem.Within mA ns) (hsz : ns.length ≤ sizeLine)
    (h : ∀ h', ObjM h' x dx C (fun y => if y = name then some v else mA y) → Heap.SameBut dx s.heap h' → Q () { s with heap := h', toks := s.toks + 2 }) :
    wpAny (model prog w) A (setAttr (.ref x) name v) Q E s := by
  obtain ⟨od, J, hl⟩ := I.look
  refine PySem.W.set_plain X J hs (PySem.W.osa_open (s := { s with toks := s.toks + 1 }) (r := none) X J hp ht fun b => ?_)
  obtain ⟨cd, hc, hd'⟩ := PySem.W.any_some hh
  have hx : s.heap.get? x = some ⟨.ref C, some dx, .plain, #[]⟩ := I.obj
  refine wpAny_bind (wpAny_pure (wpAny_bind (wpAny_bind (wpAny_loadPart hx (wpAny_bind (PySem.W.Looks.here (s := { s with toks := s.toks + 1 }) (PySem.W.looks_clsIn X hc) ?_))))))
  rw [hd']
  refine wpAny_pure (a := some dx) (wpAny_bind (wpAny_pure (wpAny_bind ?_)))
  refine wpAny_nsSet1 (s := { s with toks := s.toks + 1 }) I.ns fun h' hn2 hs2 => ?_
  obtain ⟨oD, esD, epD, hoD, hdD, hcD⟩ := hn2.count (PySem.Within.cons name v hw)
  refine wpAny_bind (wpAny_lookBehind hoD (by rw [hdD]; exact pastItsLine_dict (Nat.le_trans hcD (by rw [List.length_cons]; omega))) ?_)
  exact wpAny_pure (h _ ⟨(hs2.2 _ (Ne.symm I.ne)).trans I.obj, hn2, I.ne⟩ hs2)

/-- C(..): the dict at the heap's end, the instance behind it; then its __init__ -/
theorem make_map {R : Result → Shared → Prop} {vs : List Value} {kw : List (Str × Value)} (X : K.In s.heap) (hm : PySem.W.makesIn K C = true)
    (hi : PySem.W.findIn K (.ref C) "__init__" = some (some (.ref f))) (hf : PySem.W.typeIn K (.ref f) = some (.type "function"))
    (h : codeAny (model prog w) (A.under (.builtin "type.__call__" ⟨.ref C :: vs, kw⟩)) (.call (.ref f) ⟨.ref (s.heap.objs.size + 1) :: vs, kw⟩) (PySem.W.InitBack (s.heap.objs.size + 1) R)
      { s with heap := (s.heap.push PySem.W.emptyDict).push (PySem.W.instObj C s.heap.objs.size) }) :
    codeAny (model prog w) A (.call (.ref C) ⟨vs, kw⟩) R s := by
  obtain ⟨hh, g, d, t, os⟩ := s
  exact PySem.W.make_core (PySem.W.makes_of X hm) (PySem.W.looks_findIn X hi) (fun self => PySem.W.bind_fn X self hf) (.inl rfl) h
end

/-! ### the attributes as a list of pairs -/
def putF (f : Str) (v : V) : List (Str × V) → List (Str × V)
  | [] => [(f, v)]
  | (g, x) :: r => if g = f then (g, v) :: r else (g, x) :: putF f v r
theorem lookup_putF (f g : Str) (v : V) : ∀ fs : List (Str × V), (putF f v fs).lookup g = if g = f then some v else fs.lookup g
  | [] => by
    show List.lookup g [(f, v)] = _
    by_cases h : g = f
    · have hb : (g == f) = true := beq_iff_eq.mpr h
      simp only [List.lookup, hb, if_pos h]
    · have hb : (g == f) = false := beq_eq_false_iff_ne.mpr h
      simp only [List.lookup, hb, if_neg h]
  | (k, x) :: r => by
    have ih := lookup_putF f g v r
    rw [show putF f v ((k, x) :: r) = (if k = f then (k, v) :: r else (k, x) :: putF f v r) from rfl]
    by_cases hk : k = f
    · rw [if_pos hk]
      by_cases h : g = k
      · have hb : (g == k) = true := beq_iff_eq.mpr h
        simp only [List.lookup, hb, if_pos (h.trans hk)]
      · have hb : (g == k) = false := beq_eq_false_iff_ne.mpr h
        simp only [List.lookup, hb, if_neg (fun e : g = f => h (e.trans hk.symm))]
    · rw [if_neg hk]
      by_cases h : g = k
      · have hb : (g == k) = true := beq_iff_eq.mpr h
        simp only [List.lookup, hb, if_neg (fun e : g = f => hk (h.symm.trans e))]
      · have hb : (g == k) = false := beq_eq_false_iff_ne.mpr h
        simp only [List.lookup, hb]
        exact ih
theorem keys_putF (f : Str) (v : V) : ∀ fs : List (Str × V), f ∈ (putF f v fs).map (·.1) ∧ ∀ g, g ∈ fs.map (·.1) → g ∈ (putF f v fs).map (·.1)
  | [] => ⟨by simp [putF], fun g h => by simp at h⟩
  | (k, x) :: r => by
    obtain ⟨i1, i2⟩ := keys_putF f v r
    rw [show putF f v ((k, x) :: r) = (if k = f then (k, v) :: r else (k, x) :: putF f v r) from rfl]
    by_cases hk : k = f
    · rw [if_pos hk]
      subst hk
      exact ⟨by simp, fun g h => by simpa using h⟩
    · rw [if_neg hk]
      refine ⟨?_, fun g h => ?_⟩
      · rw [List.map_cons]
        exact List.mem_cons_of_mem _ i1
      · rw [List.map_cons] at h ⊢
        rcases List.mem_cons.mp h with e | e
        · exact List.mem_cons.mpr (.inl e)
        · exact List.mem_cons_of_mem _ (i2 g e)
theorem length_putF (f : Str) (v : V) : ∀ fs : List (Str × V), (putF f v fs).length ≤ fs.length + 1
  | [] => by simp [putF]
  | (k, x) :: r => by
    have ih := length_putF f v r
    rw [show putF f v ((k, x) :: r) = (if k = f then (k, v) :: r else (k, x) :: putF f v r) from rfl]
    by_cases hk : k = f
    · rw [if_pos hk, List.length_cons, List.length_cons]; omega
    · rw [if_neg hk, List.length_cons, List.length_cons]; omega

theorem RelO.some_of {v : V} {o : Option Value} (r : RelO (some v) o) : ∃ u, o = some u ∧ RelV v u := by
  cases o with
  | none => exact (show False from r).elim
  | some u => exact ⟨u, rfl, r⟩
theorem RelO.none_of {o : Option Value} (r : RelO none o) : o = none := by
  cases o with
  | none => rfl
  | some u => exact (show False from r).elim
theorem handed_of {v : V} {u : Value} (r : RelV v u) : PySem.W.handedIn u = true := by
  cases v with
  | non => cases (show u = Value.none from r); rfl
  | bl b => cases (show u = Value.bool b from r); rfl
  | int i => obtain ⟨t, e⟩ := (show ∃ t, u = Value.int i t from r); cases e; rfl
  | str x => obtain ⟨t, e⟩ := (show ∃ t, u = Value.str x t from r); cases e; rfl
  | byt b => obtain ⟨t, e⟩ := (show ∃ t, u = Value.bytes b t from r); cases e; rfl
  | flt b => obtain ⟨t, e⟩ := (show ∃ t, u = Value.float b t from r); cases e; rfl
  | ref a => cases (show u = Value.ref a from r); rfl
  | ty n => cases (show u = Value.type n from r); rfl

section
variable {P : Program} {w : World} {H H' : Hp} {h h' : Heap} {a C dx : Addr} {fs fs' : List (Str × V)}
theorem ins_get (hok : HOk P w H h) (e : H a = some (.ins C dx fs)) : ∃ mA, ObjM h a dx C mA ∧ (∀ f, RelO (fs.lookup f) (mA f)) ∧ PySem.Within mA (fs.map (·.1)) ∧ fs.length ≤ 1000 ∧ H dx = some (.own a) := by
  obtain ⟨d, z, ne, ob, mA, n, r, q⟩ := (show ObjOk P w H h a (.ins C dx fs) from hok a _ e)
  exact ⟨mA, ⟨ob, n, ne⟩, r, q, z, d⟩
end

/-! ### what of the text a class must have -/
structure Cls (K : PySem.W.Frag) (C : Addr) : Prop where
  pg : PySem.W.plainGet K C Str.empty = true
  hd : PySem.W.hasDictIn K C = true
  po : PySem.W.plainOver K C = true
  sa : PySem.W.findIn K (.ref C) "__setattr__" = some (some (.builtin "object.__setattr__"))
theorem Cls.get {K : PySem.W.Frag} {C : Addr} (c : Cls K C) (f : Str) : PySem.W.plainGet K C f = true := c.pg
/-- no class of it has the name -/
def NoAttr (K : PySem.W.Frag) (C : Addr) (f : Str) : Prop := PySem.W.findIn K (.ref C) f = some none
theorem NoAttr.taker {K : PySem.W.Frag} {C : Addr} {f : Str} (n : NoAttr K C f) : PySem.W.takerIn K C f = some none := by
  unfold PySem.W.takerIn
  rw [show PySem.W.findIn K (.ref C) f = some none from n]
  rfl
/-- a method: a plain def of the class or of one above it -/
structure Meth (K : PySem.W.Frag) (C : Addr) (m : Str) (f : Addr) : Prop where
  at_ : PySem.W.findIn K (.ref C) m = some (some (.ref f))
  fn : PySem.W.isFn K (.ref f) = true
  kp : PySem.W.keepIn K (.ref f) = true

section
variable {X : Cx} {pins : List (Addr × Obj)} {σ : St} {H : Hp} {s : Shared} {a C dx : Addr} {fs : List (Str × V)} {f : Str} {v : V} {A : Around} {E : Value → Shared → Prop}

theorem getattr_ok {b : Bool} {Q : Value → Shared → Prop} (I : Inv X pins σ H s) (e : H a = some (.ins C dx fs)) (c : Cls X.K C) (n : NoAttr X.K C f) (l : fs.lookup f = some v)
    (h : ∀ u s', Inv X pins σ H s' → RelV v u → Q u s') : wpAny (model X.prog X.w) A (getAttr (.ref a) f b) Q E s := by
  obtain ⟨mA, O, r, _, _, _⟩ := ins_get I.hok e
  obtain ⟨u, hu, ru⟩ := RelO.some_of (v := v) (o := mA f) (by rw [← l]; exact r f)
  exact get_map I.kIn O (c.get f) c.hd n hu (handed_of ru) (h u _ (I.tok _) ru)

theorem getmeth_ok {m : Str} {g : Addr} {pl : Sem Bool} {Q : Value × List Value → Shared → Prop} (I : Inv X pins σ H s) (e : H a = some (.ins C dx fs)) (c : Cls X.K C) (k : Meth X.K C m g) (l : fs.lookup m = none)
    (h : Q (.ref g, [.ref a]) s) : wpAny (model X.prog X.w) A (getMethod (.ref a) m pl) Q E s := by
  obtain ⟨mA, O, r, _, _, _⟩ := ins_get I.hok e
  have hn : mA m = none := RelO.none_of (by rw [← l]; exact r m)
  exact get_meth I.kIn O (c.get m) k.at_ k.fn hn h

theorem setattr_ok {y : V} {u : Value} {Q : Unit → Shared → Prop} (I : Inv X pins σ H s) (e : H a = some (.ins C dx fs)) (c : Cls X.K C) (n : NoAttr X.K C f) (hl : fs.length < 1000) (ry : RelV y u)
    (h : ∀ s', Inv X pins σ (upd H a (.ins C dx (putF f y fs))) s' → Q () s') : wpAny (model X.prog X.w) A (setAttr (.ref a) f u) Q E s := by
  obtain ⟨mA, O, r, wi, _, ho⟩ := ins_get I.hok e
  have hz : (fs.map (·.1)).length ≤ sizeLine := by rw [List.length_map, sizeLine_eq]; omega
  refine set_map I.kIn O c.sa c.po n.taker c.hd wi hz fun h' O' sb => h _ ?_
  have hd : ∃ o, h'.get? dx = some o := let ⟨o, _, _, e', _⟩ := O'.ns; ⟨o, e'⟩
  refine I.write (x := a) (e := dx) (by rw [e]; exact True.intro) (.inr ho) (fun b q hb z => (sb.2 b hb).trans z) hd ?_
  refine ⟨by rw [upd_ne O.ne]; exact ho, ?_, O.ne, O'.obj, _, O'.ns, fun g => ?_, fun g hg => ?_⟩
  · have := length_putF f y fs; omega
  · show RelO ((putF f y fs).lookup g) (if g = f then some u else mA g)
    rw [lookup_putF]
    by_cases q : g = f
    · rw [if_pos q, if_pos q]; exact ry
    · rw [if_neg q, if_neg q]; exact r g
  · by_cases q : g = f
    · rw [q]; exact (keys_putF f y fs).1
    · refine (keys_putF f y fs).2 g (wi g fun z => hg ?_)
      show (if g = f then some u else mA g) = none
      rw [if_neg q]; exact z

/-- a new instance, tracked, without attributes -/
theorem Inv.made (I : Inv X pins σ H s) : Inv X pins σ (upd (upd H s.heap.objs.size (.own (s.heap.objs.size + 1))) (s.heap.objs.size + 1) (.ins C s.heap.objs.size []))
    { s with heap := (s.heap.push PySem.W.emptyDict).push (PySem.W.instObj C s.heap.objs.size) } := by
  have e1 : (s.heap.push PySem.W.emptyDict).get? s.heap.objs.size = some PySem.W.emptyDict := Heap.get?_push_size s.heap rfl
  have e2 : ((s.heap.push PySem.W.emptyDict).push (PySem.W.instObj C s.heap.objs.size)).get? (s.heap.objs.size + 1) = some (PySem.W.instObj C s.heap.objs.size) := by
    have := Heap.get?_push_size (s.heap.push PySem.W.emptyDict) (o := PySem.W.instObj C s.heap.objs.size) rfl
    rwa [Heap.size_push] at this
  have e3 : (s.heap.push PySem.W.emptyDict).Ns s.heap.objs.size (fun _ => none) := ⟨PySem.W.emptyDict, #[], _, e1, rfl, (fun e he => absurd he (by simp)), fun _ => rfl⟩
  have I1 := I.laid (a := s.heap.objs.size) (o := .own (s.heap.objs.size + 1)) (h' := s.heap.push PySem.W.emptyDict) (t' := s.toks) (fun b u q => Heap.get?_push_of_some _ q) (Nat.le_refl _) ⟨_, e1⟩
  refine I1.laid (a := s.heap.objs.size + 1) (o := .ins C s.heap.objs.size []) (t' := s.toks) (fun b u q => Heap.get?_push_of_some _ q) (Nat.le_of_eq (Heap.size_push _ _)) ?_
  have ne : s.heap.objs.size ≠ s.heap.objs.size + 1 := Nat.ne_of_lt (Nat.lt_succ_self _)
  refine ⟨by rw [upd_ne ne, upd_same], Nat.zero_le _, ne, e2, fun _ => none, (Heap.Ns1.of_empty e3).at fun o q => Heap.get?_push_of_some _ q, fun _ => True.intro, fun y hy => absurd rfl hy⟩

/-- e.f where nothing but the object is asked: through attributeBase (super) and the last hold -/
theorem attr_of {prog : Program} {w : World} {env : Env} {e : Expr} {f : Str} {pos : Pos} {s : Shared} {Q : Value → Shared → Prop} (hb : attributeBase e f env (eval e env) = eval e env)
    (h : wpAny (model prog w) A (eval e env) (fun o s₁ => wpAny (model prog w) A (getAttr o f true) Q E s₁) E s) : wpAny (model prog w) A (eval (.Attribute e f pos) env) Q E s :=
  Attribute_any_ h (by rw [arm_eval_Attribute, hb])
end

/-! ### readings and rules -/
/-- e.f, an attribute of the instance -/
def tFld (K : PySem.W.Frag) (ta : TE) (f : Str) : TE := fun σ H Q => ta σ H fun x H1 => ∃ a C dx fs v, x = .ref a ∧ H1 a = some (.ins C dx fs) ∧ Cls K C ∧ NoAttr K C f ∧ fs.lookup f = some v ∧ Q v H1
/-- e.f = value -/
def sFld (K : PySem.W.Frag) (ta tv : TE) (f : Str) : TS := fun D σ H => tv σ H fun y H1 => ta σ H1 fun x H2 => ∃ a C dx fs, x = .ref a ∧ H2 a = some (.ins C dx fs) ∧ Cls K C ∧ NoAttr K C f ∧ fs.length < 1000 ∧
  D.nx σ (upd H2 a (.ins C dx (putF f y fs)))
/-- an augmented operator on two values -/
def InOp (X : Cx) (op : Operator) (rd : V → V → Hp → VK → Prop) : Prop :=
  ∀ (pins : List (Addr × Obj)) (s : Shared) (σ : St) (H : Hp) (x y : V) (u v : Value) (Q : VK), Inv X pins σ H s → RelV x u → RelV y v → rd x y H Q → wpAny (model X.prog X.w) X.A (inplaceOp op u v) (EP X pins σ Q) X.xe s
/-- e.f op= value -/
def sFldAug (K : PySem.W.Frag) (ta tv : TE) (rd : V → V → Hp → VK → Prop) (f : Str) : TS := fun D σ H => ta σ H fun x H1 => ∃ a C dx fs v, x = .ref a ∧ H1 a = some (.ins C dx fs) ∧ Cls K C ∧ NoAttr K C f ∧ fs.lookup f = some v ∧
  tv σ H1 fun y H2 => rd v y H2 fun z H3 => ∃ dx' fs', H3 a = some (.ins C dx' fs') ∧ fs'.length < 1000 ∧ D.nx σ (upd H3 a (.ins C dx' (putF f z fs')))

section
variable {X : Cx} {o e value : Expr} {f : Str} {pos pos' tpos : Pos} {ta tv : TE}
theorem pe_fld (he : PE X e ta) (hb : attributeBase e f X.env (eval e X.env) = eval e X.env) : PE X (.Attribute e f pos) (tFld X.K ta f) := by
  intro pins s σ H Q I h
  refine attr_of hb (thn (he pins s σ H _ I h) fun u s1 ⟨x, H1, I1, rx, a, C, dx, fs, v, ex, ea, c, n, l, q⟩ => ?_)
  subst ex
  obtain rfl : u = Value.ref a := rx
  exact getattr_ok I1 ea c n l fun u' s2 I2 ru => ⟨v, H1, I2, ru, q⟩
theorem ps_fld (ha : PE X o ta) (hv : PE X value tv) (hs : swapsWith value (some (.Attribute o f pos')) pos.line X.env = pure false) : PS X (.Assign [.Attribute o f pos'] value pos) (sFld X.K ta tv f) := by
  intro pins s σ H D I h
  refine plainObj_wpAny_Assign_Attribute (thn (hv pins s σ H _ I h) fun u s1 ⟨y, H1, I1, ry, q⟩ => thn (ha pins s1 σ H1 _ I1 q) fun ov s2 ⟨x, H2, I2, rx, a, C, dx, fs, ex, ea, c, n, l, q2⟩ => ?_) hs
  subst ex
  obtain rfl : ov = Value.ref a := rx
  exact setattr_ok I2 ea c n l ry fun s3 I3 => ⟨σ, _, I3, q2⟩
theorem ps_fldaug {op : Operator} {rd : V → V → Hp → VK → Prop} (ha : PE X o ta) (hv : PE X value tv) (hop : InOp X op rd) : PS X (.AugAssign (.Attribute o f tpos) op value pos) (sFldAug X.K ta tv rd f) := by
  intro pins s σ H D I h
  refine wpAny_AugAssign_AttributeAny (thn (ha pins s σ H _ I h) fun ov s1 ⟨x, H1, I1, rx, a, C, dx, fs, v, ex, ea, c, n, l, q⟩ => ?_)
  subst ex
  obtain rfl : ov = Value.ref a := rx
  refine getattr_ok I1 ea c n l fun u s2 I2 ru => thn (hv pins s2 σ H1 _ I2 q) fun w3 s3 ⟨y, H2, I3, ry, q3⟩ => thn (hop pins s3 σ H2 v y u w3 _ I3 ru ry q3) fun w4 s4 ⟨z, H3, I4, rz, dx', fs', ea', l', q4⟩ => ?_
  exact setattr_ok I4 ea' c n l' rz fun s5 I5 => ⟨σ, _, I5, q4⟩
end

/-! ### isinstance -/
section
variable {X : Cx} {pins : List (Addr × Obj)} {σ : St} {H : Hp} {s : Shared} {A : Around} {E : Value → Shared → Prop} {Q : Value → Shared → Prop} {c : Value} {b : Bool}
/-- the type of a value, as the fragment's deciders take it; for an instance its class -/
inductive TyOf (K : PySem.W.Frag) (H : Hp) : V → Value → Prop where
  | non : TyOf K H .non (.type "NoneType")
  | bl (x : Bool) : TyOf K H (.bl x) (.type "bool")
  | int (i : Int) : TyOf K H (.int i) (.type "int")
  | str (x : Str) : TyOf K H (.str x) (.type "str")
  | flt (x : UInt64) : TyOf K H (.flt x) (.type "float")
  | lst {a : Addr} {xs : List V} (e : H a = some (.lst xs)) : TyOf K H (.ref a) (.type "list")
  | frz {a : Addr} {o : Obj} {xs : List V} (e : H a = some (.frz o (.lst xs))) : TyOf K H (.ref a) (.type "list")
  | tup {a : Addr} {xs : List V} (e : H a = some (.tup xs)) : TyOf K H (.ref a) (.type "tuple")
  | dK {a : Addr} {kvs : List (Key × V)} (e : H a = some (.dK kvs)) : TyOf K H (.ref a) (.type "dict")
  | dT {a : Addr} {kvs : List (List Key × V)} (e : H a = some (.dT kvs)) : TyOf K H (.ref a) (.type "dict")
  | ins {a C dx : Addr} {fs : List (Str × V)} (e : H a = some (.ins C dx fs)) (cl : Cls K C) (ha : PySem.W.findIn K (.ref C) "__class__" = some (some (.builtin "object.__class__")))
      (hn : PySem.W.specialIn K (.builtin "object.__class__") "__get__" = some (some (.builtin "getset_descriptor.__get__"))) (htk : PySem.W.takesIn K (.builtin "object.__class__") = some true)
      (hm : PySem.W.mroIn K C (.type "object") = some true) : TyOf K H (.ref a) (.ref C)
/-- isinstance(x, c) for one class c, a built-in or an own one: kitOne's answer -/
theorem isinst_ok {x : V} {u t : Value} (I : Inv X pins σ H s) (rx : RelV x u) (ty : TyOf X.K H x t) (e : PySem.W.kitOne X.K t c = some b) (h : ∀ tk, Q (.bool b) { s with toks := tk }) :
    wpAny (model X.prog X.w) A (call (.builtin "isinstance") [u, c]) Q E s := by
  cases ty with
  | non => cases (show u = Value.none from rx); exact PySem.W.kia_one PySem.W.kitx_none I.kIn True.intro e (fun z => nomatch z) h
  | bl y => cases (show u = Value.bool y from rx); exact PySem.W.kia_one PySem.W.kitx_bool I.kIn True.intro e (fun z => nomatch z) h
  | int i => obtain ⟨t, q⟩ := (show ∃ t, u = Value.int i t from rx); cases q; exact PySem.W.kia_one PySem.W.kitx_int I.kIn True.intro e (fun z => nomatch z) h
  | str y => obtain ⟨t, q⟩ := (show ∃ t, u = Value.str y t from rx); cases q; exact PySem.W.kia_one PySem.W.kitx_str I.kIn True.intro e (fun z => nomatch z) h
  | flt y => obtain ⟨t, q⟩ := (show ∃ t, u = Value.float y t from rx); cases q; exact PySem.W.kia_one PySem.W.kitx_float I.kIn True.intro e (fun z => nomatch z) h
  | @lst a xs ea =>
    cases (show u = Value.ref a from rx)
    obtain ⟨_, _, n, _, h1⟩ := (show ObjOk X.prog X.w H s.heap a (.lst xs) from I.hok a _ ea)
    exact PySem.W.kia_one PySem.W.kitx_list I.kIn ⟨_, h1, rfl⟩ e (fun z => nomatch z) h
  | @frz a ob xs ea =>
    cases (show u = Value.ref a from rx)
    obtain ⟨_, _, _, n, _, h1⟩ := (show ObjOk X.prog X.w H s.heap a (.frz ob (.lst xs)) from I.hok a _ ea)
    exact PySem.W.kia_one PySem.W.kitx_list I.kIn ⟨_, h1, rfl⟩ e (fun z => nomatch z) h
  | @tup a xs ea =>
    cases (show u = Value.ref a from rx)
    obtain ⟨_, _, _, p⟩ := (show ObjOk X.prog X.w H s.heap a (.tup xs) from I.hok a _ ea)
    obtain ⟨o, h1, h2, _⟩ := p
    exact PySem.W.kia_one PySem.W.kitx_tuple I.kIn ⟨o, h1, h2⟩ e (fun z => nomatch z) h
  | @dK a kvs ea =>
    cases (show u = Value.ref a from rx)
    obtain ⟨_, _, vs, _, p⟩ := (show ObjOk X.prog X.w H s.heap a (.dK kvs) from I.hok a _ ea)
    obtain ⟨o, es, ep, h1, h2, _⟩ := p
    exact PySem.W.kia_one PySem.W.kitx_dict I.kIn ⟨o, h1, h2.1⟩ e (fun z => nomatch z) h
  | @dT a kvs ea =>
    cases (show u = Value.ref a from rx)
    obtain ⟨_, _, xs, _, o, es, ep, h1, h2, _⟩ := (show ObjOk X.prog X.w H s.heap a (.dT kvs) from I.hok a _ ea)
    exact PySem.W.kia_one PySem.W.kitx_dict I.kIn ⟨o, h1, h2.1⟩ e (fun z => nomatch z) h
  | @ins a C dx fs ea cl ha hn htk hm =>
    cases (show u = Value.ref a from rx)
    obtain ⟨mA, O, _⟩ := ins_get I.hok ea
    obtain ⟨od, J, _⟩ := O.look
    exact PySem.W.kia_one (PySem.W.kitx_own (cl.get _) cl.hd ha hn htk hm) I.kIn J e (fun z => nomatch z) h
end
end L2

namespace L2
open PySem PySem.Spec PyProof.Rows

/-! ### room -/
structure Room (k : Nat) (A : Around) : Prop where
  hd : A.handled = none
  dp : A.depth + 3 * k + 5 < recursionLimit
  un : A.units + 16 * k + 200 < cLine
theorem Room.mono {j k : Nat} {A : Around} (r : Room k A) (h : j ≤ k) : Room j A := ⟨r.hd, by have := r.dp; omega, by have := r.un; omega⟩
theorem Room.deeper {k : Nat} {A : Around} (r : Room (k + 1) A) (env : Env) : Room k (A.deeper env) :=
  ⟨r.hd, by have := r.dp; show A.depth + 1 + 3 * k + 5 < _; omega, by have := r.un; show A.units + 3 + 16 * k + 200 < _; omega⟩
theorem make_depth {A : Around} {C : Addr} {us : List Value} {kw : List (Str × Value)} : (A.under (.builtin "type.__call__" ⟨.ref C :: us, kw⟩)).depth = A.depth + 1 := by
  first | rfl | simp [Around.under, Code.weight, Code.isCreation, Code.isGuard, Code.isCaller, Code.frames, Code.isFrame, guardIds]
theorem make_units {A : Around} {C : Addr} {us : List Value} {kw : List (Str × Value)} : (A.under (.builtin "type.__call__" ⟨.ref C :: us, kw⟩)).units = A.units + 1 := by
  first | rfl | simp [Around.under, Code.cUnits, Code.frames, Code.isFrame]
theorem Room.make {k : Nat} {A : Around} (r : Room (k + 1) A) (C : Addr) (us : List Value) (kw : List (Str × Value)) : Room k (A.under (.builtin "type.__call__" ⟨.ref C :: us, kw⟩)) :=
  ⟨r.hd, by have := r.dp; rw [make_depth]; omega, by have := r.un; rw [make_units]; omega⟩
theorem Room.depth {k : Nat} {A : Around} (r : Room k A) : A.depth < recursionLimit := by have := r.dp; omega
theorem Room.units {k : Nat} {A : Around} (r : Room k A) : A.units + 64 < cLine := by have := r.un; omega
/-! ### argument lists and displays -/
def tNil : TA := fun _ H Q => Q [] H
def tCons (ta : TE) (tr : TA) : TA := fun σ H Q => ta σ H fun x H1 => tr σ H1 fun xs H2 => Q (x :: xs) H2
section
variable {X : Cx} {e : Expr} {es : List Expr} {te : TE} {t : TA} {pos : Pos}
theorem pa_nil : PA X [] tNil := fun _ _ _ _ H Q I h => Calls.spliced_nil ⟨[], H, I, .nil, h⟩
theorem pa_cons (ha : PE X e te) (hr : PA X es t) (hs : starEach (e :: es) X.env = (false, eval e X.env) :: starEach es X.env := by rfl) : PA X (e :: es) (tCons te t) := by
  intro pos pins s σ H Q I h
  rw [hs]
  show wpAny _ _ (spliced ((false, eval e X.env) :: backTo pos (starEach es X.env))) _ _ s
  refine Calls.spliced_cons (thn (ha pins s σ H _ I h) fun u s1 ⟨x, H1, I1, r1, q1⟩ => ?_)
  exact thn (hr pos pins s1 σ H1 _ I1 q1) fun us s2 ⟨xs, H2, I2, r2, q2⟩ => ⟨x :: xs, H2, I2, .cons r1 r2, q2⟩

/-- a tuple, a list of written items -/
def tTup (t : TA) : TE := fun σ H Q => t σ H fun xs H1 => xs.length ≤ sizeLine ∧ ∀ p, H1 p = none → Q (.ref p) (upd H1 p (.tup xs))
def tLst (t : TA) : TE := fun σ H Q => t σ H fun xs H1 => xs.length ≤ sizeLine ∧ ∀ p, H1 p = none → Q (.ref p) (upd H1 p (.lst xs))
theorem pe_tup {x1} (h : PA X es t) : PE X (.Tuple es x1 pos) (tTup t) := by
  intro pins s σ H Q I hq
  refine wpAny_Tuple_spliced (thn (h pos pins s σ H _ I hq) fun us s1 ⟨xs, H1, I1, r, z, q⟩ => ⟨by rw [← r.length]; exact z, ?_⟩)
  have hf : H1 s1.heap.objs.size = none := I1.hok.fresh (Nat.le_refl _)
  refine ⟨.ref s1.heap.objs.size, upd H1 s1.heap.objs.size (.tup xs), I1.laid (t' := s1.toks) (fun b u e => Heap.get?_push_of_some _ e) (Nat.le_refl _) ?_, rfl, q _ hf⟩
  exact ⟨z, us, r, ⟨_, Heap.get?_push_size _ rfl, rfl, _, rfl⟩⟩
theorem pe_lst (h : PA X es t) : PE X (.List es pos) (tLst t) := by
  intro pins s σ H Q I hq
  refine wpAny_List_spliced (thn (h pos pins s σ H _ I hq) fun us s1 ⟨xs, H1, I1, r, z, q⟩ => ⟨by rw [← r.length]; exact z, ?_⟩)
  have hf : H1 s1.heap.objs.size = none := I1.hok.fresh (Nat.le_refl _)
  refine ⟨.ref s1.heap.objs.size, upd H1 s1.heap.objs.size (.lst xs), I1.laid (t' := s1.toks) (fun b u e => Heap.get?_push_of_some _ e) (Nat.le_refl _) ?_, rfl, q _ hf⟩
  exact ⟨z, us, 0, r, Heap.get?_push_size _ rfl⟩
end

/-! ### what a def promises -/
/-- a def's promise: the bound arguments in the parameters' order, the heap, the wanted end, the wanted exception -/
abbrev Sp := List V → Hp → VK → XK → Prop
/-- how an exception lies behind a call (file 08 gives it): the callers' frames, abstract heap and state ahead of the call, the wish, the exception, the state -/
abbrev CXT := List Env → Hp → Shared → XK → Value → Shared → Prop

/-- the state at a call -/
structure Env0 (P : Program) (w : World) (K : PySem.W.Frag) (mg : Str → Option Value) (base : Heap) (A : Around) (outer : List Env) (s : Shared) (H : Hp) : Prop where
  frames : A.frames = some outer
  mod : Mod K mg base
  bs : ∀ b o, base.get? b = some o → s.heap.get? b = some o ∧ H b = none
  bsz : base.objs.size ≤ s.heap.objs.size
  funs : s.heap.FunFrames base outer
  frf : ∀ b ∈ frs outer, H b = none
  hok : HOk P w H s.heap
  bare : AllBare s.gens
/-- a call's end -/
def CE (outer : List Env) (P : Program) (w : World) (H : Hp) (s : Shared) (Q : VK) (u : Value) (s' : Shared) : Prop :=
  ∃ v H', s'.os = s.os ∧ AllBare s'.gens ∧ Un (frs outer) [] H H' s.heap s'.heap ∧ HOk P w H' s'.heap ∧ RelV v u ∧ Q v H'
def CR (CX : CXT) (outer : List Env) (P : Program) (w : World) (H : Hp) (s : Shared) (Q : VK) (E : XK) (r : Result) (s' : Shared) : Prop :=
  match r with
  | .ok (.ret u) => CE outer P w H s Q u s'
  | .ok _ => False
  | .error e => CX outer H s E e s'
structure FnOk (P : Program) (w : World) (K : PySem.W.Frag) (mg : Str → Option Value) (base : Heap) (CX : CXT) (k : Nat) (f : Addr) (fd : FuncData) (ps : List Str) (sp : Sp) : Prop where
  len : ∀ vs H Q E, sp vs H Q E → vs.length = ps.length
  run : ∀ (A : Around) (outer : List Env) (s : Shared) (H : Hp) (args : Args) (us : List Value) (vs : List V) (Q : VK) (E : XK), Room k A → Env0 P w K mg base A outer s H → BindsTo s fd args (ps.zip us) → Vals vs us → sp vs H Q E →
    codeAny (model P w) A (.call (.ref f) args) (CR CX outer P w H s Q E) s
theorem Env0.make {P : Program} {w : World} {K : PySem.W.Frag} {mg : Str → Option Value} {base : Heap} {A : Around} {outer : List Env} {s : Shared} {H : Hp} (e : Env0 P w K mg base A outer s H) (C : Addr) (us : List Value) (kw : List (Str × Value)) :
    Env0 P w K mg base (A.under (.builtin "type.__call__" ⟨.ref C :: us, kw⟩)) outer s H := ⟨by first | exact e.frames | (simpa [Around.under, Code.envs, Code.isFrame, pushEnvs] using e.frames), e.mod, e.bs, e.bsz, e.funs, e.frf, e.hok, e.bare⟩
section
variable {X : Cx} {pins : List (Addr × Obj)} {σ : St} {H : Hp} {s s' : Shared}
/-- from a body: what a callee wants -/
theorem Inv.env0 (I : Inv X pins σ H s) : Env0 X.prog X.w X.K X.mg X.base X.A X.stack s H :=
  ⟨I.ok.frames, I.ok.mod, I.bs, Nat.le_trans I.ok.bsz I.sz, I.stack, I.stkFree, I.hok, I.bare⟩
/-- behind a call -/
theorem Inv.after {Q : VK} {u : Value} (I : Inv X pins σ H s) (h : CE X.stack X.prog X.w H s Q u s') : EP X pins σ Q u s' := by
  obtain ⟨v, H', os, bare, un, hok, r, q⟩ := h
  obtain ⟨hh, g, d, t, os'⟩ := s'
  obtain rfl : os' = s.os := os
  exact ⟨v, H', I.call (h' := hh) (g' := g) (d' := d) (t' := t) (ch := []) un hok bare (fun b z => absurd z (by simp)), r, q⟩
end

/-! ### calls -/
/-- f(..): the written arguments, then the defaults dvs; E: what is wanted of an exception -/
def tCall (sp : Sp) (dvs : List V) (E : XK) (t : TA) : TE := fun σ H Q => t σ H fun vs H1 => sp (vs ++ dvs) H1 Q E
/-- o.m(..) of an instance of the class at C -/
def tMeth (C : Addr) (m : Str) (sp : Sp) (dvs : List V) (E : XK) (ta : TE) (t : TA) : TE := fun σ H Q => ta σ H fun x H1 => ∃ a dx fs, x = .ref a ∧ H1 a = some (.ins C dx fs) ∧ fs.lookup m = none ∧
  t σ H1 fun vs H2 => sp (x :: (vs ++ dvs)) H2 Q E
/-- C(..): a new instance and its dict, then __init__ -/
def tMake (C : Addr) (sp : Sp) (dvs : List V) (E : XK) (t : TA) : TE := fun σ H Q => t σ H fun vs H1 => ∀ x dx, H1 x = none → H1 dx = none → dx ≠ x →
  sp (.ref x :: (vs ++ dvs)) (upd (upd H1 dx (.own x)) x (.ins C dx [])) (fun v H2 => v = .non ∧ Q (.ref x) H2) E

/-- how the parameters are bound: us the positional arguments, kw the keywords' values by name, ds the defaults that fill up -/
def Binds (K : PySem.W.Frag) (fd : FuncData) (ps : List Str) (ds : List Value) : Prop :=
  ∀ (s : Shared) (us : List Value), K.In s.heap → (us ++ ds).length = ps.length → BindsTo s fd ⟨us, []⟩ (ps.zip (us ++ ds))
/-- every parameter is given -/
theorem Binds.all {K : PySem.W.Frag} {fd : FuncData} {ps : List Str} (h : ∀ us : List Value, us.length = ps.length → bindArgs fd ⟨us, []⟩ = pure (ps.zip us)) : Binds K fd ps [] := fun s us _ hl => by
  rw [List.append_nil] at hl ⊢
  exact .of_eq (h us hl)

/-- an exception of a callee reaches what this body wants of exceptions -/
def Passes (CX : CXT) (X : Cx) (E : XK) : Prop := ∀ (pins : List (Addr × Obj)) (σ : St) (H : Hp) (s : Shared) (e : Value) (s' : Shared), Inv X pins σ H s → CX X.stack H s E e s' → X.xe e s'

section
variable {X : Cx} {CX : CXT} {k : Nat} {f C : Addr} {fd : FuncData} {ps : List Str} {sp : Sp} {dvs : List V} {ds : List Value} {E : XK} {x m : Str} {p pos apos : Pos} {e o : Expr} {es : List Expr} {ta : TE} {t : TA}

/-- the callee runs -/
theorem run_fn {pins : List (Addr × Obj)} {σ : St} {H : Hp} {s : Shared} {Q : VK} {us : List Value} {vs : List V} (F : FnOk X.prog X.w X.K X.mg X.base CX k f fd ps sp) (hr : Room k X.A) (hb : Binds X.K fd ps ds) (hd : Vals dvs ds) (hx : Passes CX X E)
    (I : Inv X pins σ H s) (r : Vals vs us) (h : sp (vs ++ dvs) H Q E) : wpAny (model X.prog X.w) X.A (call (.ref f) us) (EP X pins σ Q) X.xe s := by
  have r2 : Vals (vs ++ dvs) (us ++ ds) := r.append hd
  have hl : (us ++ ds).length = ps.length := by rw [← r2.length]; exact F.len _ _ _ _ h
  refine wpAny_call (codeAny_mono (F.run X.A X.stack s H ⟨us, []⟩ (us ++ ds) (vs ++ dvs) Q E hr I.env0 (hb s us I.kIn hl) r2 h) fun r s' hq => ?_)
  cases r with
  | error e => exact hx pins σ H s e s' I hq
  | ok fl =>
    cases fl with
    | ret u => exact I.after hq
    | next => exact False.elim hq
    | brk => exact False.elim hq
    | cont => exact False.elim hq

theorem pe_call (F : FnOk X.prog X.w X.K X.mg X.base CX k f fd ps sp) (hr : Room k X.A) (hg : Gl X x) (hm : X.mg x = some (.ref f)) (hk : PySem.W.keepIn X.K (.ref f) = true) (hb : Binds X.K fd ps ds) (hd : Vals dvs ds) (hx : Passes CX X E)
    (ha : PA X (e :: es) t) (hdb : (x == ("__debug__" : Str)) = false := by decide) (he : starEach (e :: es) X.env = (false, eval e X.env) :: starEach es X.env := by rfl) (hpl : (backTo pos (starEach es X.env)).any (·.1) = false := by rfl) :
    PE X (.Call (.Name x p) (e :: es) [] pos) (tCall sp dvs E t) := by
  intro pins s σ H Q I h
  refine wpAny_Call_Name_kw (ld_glob I hg hm ?_ hdb)
  refine PySem.W.callWith_K (h₀ := X.base) I.ok.mod.kin hk (thn (ha pos pins s σ H _ I h) fun us s1 ⟨vs, H1, I1, r, q⟩ => ⟨I1.kIn, ?_⟩) he hpl
  exact run_fn F hr hb hd hx I1 r q
/-- o.m(e, ..) -/
theorem pe_meth {pl : Sem Bool} (he : PE X o ta) (c : Cls X.K C) (hm : Meth X.K C m f) (F : FnOk X.prog X.w X.K X.mg X.base CX k f fd ps sp) (hr : Room k X.A) (hb : Binds X.K fd ps ds) (hd : Vals dvs ds) (hx : Passes CX X E) (ha : PA X (e :: es) t)
    (hst : starEach (e :: es) X.env = (false, eval e X.env) :: starEach es X.env := by rfl) (hpl : (backTo pos (starEach es X.env)).any (·.1) = false := by rfl)
    (ht : eval (.Call (.Attribute o m apos) (e :: es) [] pos) X.env = (do
      let ov ← eval o X.env
      standAt apos.atName
      let (f, first) ← holding [ov] (getMethod ov m pl)
      callWith pos f first (backTo pos (starEach (e :: es) X.env)) (backToKw pos (keywordEach [] X.env))) := by rfl) :
    PE X (.Call (.Attribute o m apos) (e :: es) [] pos) (tMeth C m sp dvs E ta t) := by
  intro pins s σ H Q I h
  refine PySem.W.methodCall_KW (pl := pl) (thn (he pins s σ H _ I h) fun u s1 ⟨x, H1, I1, rx, a, dx, fs, ex, ea, l, q⟩ => ?_) ht
  subst ex
  obtain rfl : u = Value.ref a := rx
  refine getmeth_ok I1 ea c hm l ?_
  refine PySem.W.callWith_K (first := [.ref a]) (h₀ := X.base) I.ok.mod.kin hm.kp (thn (ha pos pins s1 σ H1 _ I1 q) fun us s2 ⟨vs, H2, I2, r, q2⟩ => ⟨I2.kIn, ?_⟩) hst hpl
  exact run_fn (us := .ref a :: us) (vs := .ref a :: vs) F hr hb hd hx I2 (.cons rfl r) q2
/-- o.m() -/
theorem pe_meth0 {pl : Sem Bool} (he : PE X o ta) (c : Cls X.K C) (hm : Meth X.K C m f) (F : FnOk X.prog X.w X.K X.mg X.base CX k f fd ps sp) (hr : Room k X.A) (hb : Binds X.K fd ps ds) (hd : Vals dvs ds) (hx : Passes CX X E)
    (ht : eval (.Call (.Attribute o m apos) [] [] pos) X.env = (do
      let ov ← eval o X.env
      standAt apos.atName
      let (f, first) ← holding [ov] (getMethod ov m pl)
      callWith pos f first (backTo pos (starEach [] X.env)) (backToKw pos (keywordEach [] X.env))) := by rfl) :
    PE X (.Call (.Attribute o m apos) [] [] pos) (tMeth C m sp dvs E ta tNil) := by
  intro pins s σ H Q I h
  refine PySem.W.methodCall_KW (pl := pl) (thn (he pins s σ H _ I h) fun u s1 ⟨x, H1, I1, rx, a, dx, fs, ex, ea, l, q⟩ => ?_) ht
  subst ex
  obtain rfl : u = Value.ref a := rx
  refine getmeth_ok I1 ea c hm l ?_
  exact PySem.W.callWith_K0 (first := [.ref a]) I1.kIn hm.kp (run_fn (us := [.ref a]) (vs := [.ref a]) F hr hb hd hx I1 (.cons rfl .nil) q)

/-- what a class must have to be made -/
structure Mk (K : PySem.W.Frag) (C f : Addr) : Prop where
  makes : PySem.W.makesIn K C = true
  init : PySem.W.findIn K (.ref C) "__init__" = some (some (.ref f))
  fn : PySem.W.isFn K (.ref f) = true
  kp : PySem.W.keepIn K (.ref C) = true

theorem run_make {pins : List (Addr × Obj)} {σ : St} {H : Hp} {s : Shared} {Q : VK} {us : List Value} {vs : List V} (M : Mk X.K C f) (F : FnOk X.prog X.w X.K X.mg X.base CX k f fd ps sp) (hr : Room (k + 1) X.A) (hb : Binds X.K fd ps ds) (hd : Vals dvs ds)
    (hx : Passes CX X E) (I : Inv X pins σ H s) (r : Vals vs us)
    (h : ∀ x dx, H x = none → H dx = none → dx ≠ x → sp (.ref x :: (vs ++ dvs)) (upd (upd H dx (.own x)) x (.ins C dx [])) (fun v H2 => v = .non ∧ Q (.ref x) H2) E) :
    wpAny (model X.prog X.w) X.A (call (.ref C) us) (EP X pins σ Q) X.xe s := by
  have hq := h (s.heap.objs.size + 1) s.heap.objs.size (I.hok.fresh (Nat.le_succ _)) (I.hok.fresh (Nat.le_refl _)) (Nat.ne_of_lt (Nat.lt_succ_self _))
  have I2 := Inv.made (C := C) I
  have r2 : Vals (V.ref (s.heap.objs.size + 1) :: (vs ++ dvs)) (Value.ref (s.heap.objs.size + 1) :: (us ++ ds)) := .cons rfl (r.append hd)
  have hl : (Value.ref (s.heap.objs.size + 1) :: us ++ ds).length = ps.length := by
    have e := r2.length
    rw [F.len _ _ _ _ hq] at e
    exact e.symm
  refine wpAny_call (make_map (f := f) I.kIn M.makes M.init (beq_iff_eq.mp M.fn) (codeAny_mono (F.run _ X.stack _ _ ⟨Value.ref (s.heap.objs.size + 1) :: us, []⟩ (Value.ref (s.heap.objs.size + 1) :: (us ++ ds)) _ _ E (hr.make C us [])
    (I2.env0.make C us []) (hb _ (Value.ref (s.heap.objs.size + 1) :: us) I2.kIn hl) r2 hq) fun r s' hq' => ?_))
  cases r with
  | error e => exact hx pins σ _ _ e s' I2 hq'
  | ok fl =>
    cases fl with
    | ret u =>
      obtain ⟨v, H', I3, rv, ev, q3⟩ := I2.after hq'
      subst ev
      exact ⟨rv, ⟨V.ref (s.heap.objs.size + 1), H', I3, rfl, q3⟩⟩
    | next => exact False.elim hq'
    | brk => exact False.elim hq'
    | cont => exact False.elim hq'
theorem pe_make (M : Mk X.K C f) (F : FnOk X.prog X.w X.K X.mg X.base CX k f fd ps sp) (hr : Room (k + 1) X.A) (hg : Gl X x) (hm : X.mg x = some (.ref C)) (hb : Binds X.K fd ps ds) (hd : Vals dvs ds) (hx : Passes CX X E)
    (ha : PA X (e :: es) t) (hdb : (x == ("__debug__" : Str)) = false := by decide) (he : starEach (e :: es) X.env = (false, eval e X.env) :: starEach es X.env := by rfl) (hpl : (backTo pos (starEach es X.env)).any (·.1) = false := by rfl) :
    PE X (.Call (.Name x p) (e :: es) [] pos) (tMake C sp dvs E t) := by
  intro pins s σ H Q I h
  refine wpAny_Call_Name_kw (ld_glob I hg hm ?_ hdb)
  refine PySem.W.callWith_K (h₀ := X.base) I.ok.mod.kin M.kp (thn (ha pos pins s σ H _ I h) fun us s1 ⟨vs, H1, I1, r, q⟩ => ⟨I1.kIn, ?_⟩) he hpl
  exact run_make M F hr hb hd hx I1 r q
end

/-! ### keywords -/
section
variable {X : Cx} {CX : CXT} {k : Nat} {f C : Addr} {fd : FuncData} {ps ks : List Str} {sp : Sp} {E : XK} {x m : Str} {p pos apos kpos : Pos} {e o : Expr} {es : List Expr} {kws : List Keyword} {te ta : TE} {t tk : TA} {nm : Option Str}
variable {g : List Value → List Value → List Value} {gV : List V → List V → List V}
end

/-! ### a def's body keeps its promise -/
/-- names: the parameters first -/
structure FnScope (N P : List Str) (sc : Scope) : Prop where
  kind : sc.kind = .function
  co : sc.isCoroutine = false
  gen : sc.isGenerator = false
  nd : N.Nodup
  pre : N.take P.length = P
  par : ∀ x ∈ P, sc.names.lookup x = some .local ∨ sc.names.lookup x = some .cell
  nofree : ∀ y ∈ sc.names, y.2 ≠ .free

theorem bindL_out {kindOf : Str → Option NameKind} {x : Str} : ∀ {binds : List (Str × Value)} {m : Str → Option Value}, (∀ v, (x, v) ∉ binds) → bindL kindOf binds m x = m x
  | [], _, _ => rfl
  | (n, v) :: r, m, h => by
    unfold bindL
    rw [bindL_out fun w hw => h w (List.mem_cons_of_mem _ hw)]
    split
    · have : x ≠ n := by rintro rfl; exact h v List.mem_cons_self
      simp [this]
    · rfl
theorem bindC_out {kindOf : Str → Option NameKind} {x : Str} : ∀ {binds : List (Str × Value)} {m : Str → Option Value}, (∀ v, (x, v) ∉ binds) → bindC kindOf binds m x = m x
  | [], _, _ => rfl
  | (n, v) :: r, m, h => by
    unfold bindC
    rw [bindC_out fun w hw => h w (List.mem_cons_of_mem _ hw)]
    split
    · rfl
    · have : x ≠ n := by rintro rfl; exact h v List.mem_cons_self
      simp [this]
theorem bindL_get {kindOf : Str → Option NameKind} {x : Str} {v : Value} : ∀ {P : List Str} {vs : List Value} {i : Nat} {m : Str → Option Value}, P.Nodup → P[i]? = some x → vs[i]? = some v → kindOf x = some .local →
    bindL kindOf (P.zip vs) m x = some v
  | [], _, _, _, _, h, _, _ => by simp at h
  | _ :: _, [], _, _, _, _, h, _ => by simp at h
  | p :: P, w :: vs, 0, m, nd, h1, h2, hk => by
    simp at h1 h2; subst h1; subst h2
    show bindL kindOf ((p, w) :: P.zip vs) m p = _
    unfold bindL
    rw [bindL_out fun v hv => (List.nodup_cons.mp nd).1 (List.of_mem_zip hv).1, if_pos hk]
    simp
  | p :: P, w :: vs, i + 1, m, nd, h1, h2, hk => by
    show bindL kindOf ((p, w) :: P.zip vs) m x = _
    unfold bindL
    exact bindL_get (i := i) (List.nodup_cons.mp nd).2 (by simpa using h1) (by simpa using h2) hk
theorem bindC_get {kindOf : Str → Option NameKind} {x : Str} {v : Value} : ∀ {P : List Str} {vs : List Value} {i : Nat} {m : Str → Option Value}, P.Nodup → P[i]? = some x → vs[i]? = some v → kindOf x ≠ some .local →
    bindC kindOf (P.zip vs) m x = some v
  | [], _, _, _, _, h, _, _ => by simp at h
  | _ :: _, [], _, _, _, _, h, _ => by simp at h
  | p :: P, w :: vs, 0, m, nd, h1, h2, hk => by
    simp at h1 h2; subst h1; subst h2
    show bindC kindOf ((p, w) :: P.zip vs) m p = _
    unfold bindC
    rw [bindC_out fun v hv => (List.nodup_cons.mp nd).1 (List.of_mem_zip hv).1, if_neg hk]
    simp
  | p :: P, w :: vs, i + 1, m, nd, h1, h2, hk => by
    show bindC kindOf ((p, w) :: P.zip vs) m x = _
    unfold bindC
    exact bindC_get (i := i) (List.nodup_cons.mp nd).2 (by simpa using h1) (by simpa using h2) hk

/-- the names' values at the entry -/
def start (N : List Str) (vs : List V) : St := vs.map some ++ List.replicate (N.length - vs.length) none

/-- the context of a def's body, at its entry; an exception leaves the frame, then lies as CX says -/
def cxOf (CX : CXT) (P : Program) (w : World) (K : PySem.W.Frag) (mg : Str → Option Value) (base : Heap) (N : List Str) (qual : Str) (scope : Scope) (f : Addr) (cd : Value) (A : Around) (outer : List Env) (s : Shared) (H : Hp) (E : XK) : Cx where
  prog := P
  w := w
  K := K
  mg := mg
  base := base
  A := A.deeper (envOfC qual scope s.heap.objs.size f cd)
  N := N
  s₀ := s
  H₀ := H
  env := envOfC qual scope s.heap.objs.size f cd
  outer := outer
  stack := envOfC qual scope s.heap.objs.size f cd :: outer
  ex := []
  calm := true
  fn := fun _ => true
  pn := []
  xe := fun e s' => wpAny (model P w) (A.deeper (envOfC qual scope s.heap.objs.size f cd)) (leaving (envOfC qual scope s.heap.objs.size f cd) e) (fun _ s'' => CX outer H s E e s'') (fun e' s'' => CX outer H s E e' s'') s'

theorem cell_has {sc : Scope} {n : Nat} {x : Str} (h : sc.names.lookup x = some .cell) : ∃ c, (cellsFrom n sc.names []).lookup x = some c := by
  have q := PySem.W.cellsFrom_some sc.names n [] (.inl h)
  exact Option.isSome_iff_exists.mp q

theorem inv_start {CX : CXT} {P : Program} {w : World} {K : PySem.W.Frag} {mg : Str → Option Value} {base : Heap} {N ps : List Str} {qual : Str} {scope : Scope} {f : Addr} {cd : Value} {A : Around} {outer : List Env} {s s1 : Shared} {H : Hp} {E : XK} {us : List Value} {vs : List V}
    (S : FnScope N ps scope) (hd : A.handled = none) (e0 : Env0 P w K mg base A outer s H) (hl : vs.length = ps.length) (r : Vals vs us)
    (x : InCallC s s.heap.objs.size (bindL (envOfC qual scope s.heap.objs.size f cd).kindOf (ps.zip us) fun _ => none) (cellsFrom (s.heap.objs.size + 1) scope.names []) (bindC (envOfC qual scope s.heap.objs.size f cd).kindOf (ps.zip us) fun _ => none) s1) :
    Inv (cxOf CX P w K mg base N qual scope f cd A outer s H E) [] (start N vs) H s1 := by
  have hpl : ps.length ≤ N.length := by have := congrArg List.length S.pre; rw [List.length_take] at this; omega
  obtain ⟨h1, tk, rfl, hk⟩ := x.done
  have noA : ∀ b : Addr, b ∉ (cxOf CX P w K mg base N qual scope f cd A outer s H E).ex := fun b z => absurd (show b ∈ ([] : List Addr) from z) (by simp)
  refine ⟨⟨e0.mod, S.kind, rfl, rfl, Nat.le_refl _, fun y z c h1 h2 => ?_, fun y hy => ?_, fun y c _ h => ?_, fun _ => hd, Around.frames_deeper e0.frames, .inr ⟨rfl, rfl⟩, fun b z => absurd z (noA b), e0.bs, e0.bsz, fun b _ _ => noA b, fun b z => absurd z (noA b), e0.funs, e0.frf⟩,
    rfl, e0.bare, Un.kept hk, ⟨_, x.toInCall.ns, fun i y v h1 h2 h3 => ?_⟩, fun y c h => ⟨_, x.cell y c h⟩, e0.hok.fresh (Nat.le_refl _), fun y c h => ?_, fun p hp => absurd (show p ∈ ([] : List (Addr × Obj)) from hp) (by simp), e0.hok.kept hk, ?_⟩
  · exact name_of_addr x.apart (PySem.mem_of_lookup h1) (PySem.mem_of_lookup h2)
  · have hy : scope.names.lookup y = some .cell ∨ scope.names.lookup y = some .free := hy
    rcases hy with hy | hy
    · exact cell_has hy
    · exact absurd rfl (S.nofree _ (PySem.mem_of_lookup hy))
  · exact Nat.le_of_lt (x.above y c (PySem.mem_of_lookup h))
  · have hi : i < vs.length := by
      unfold start at h2
      by_cases hi : i < vs.length
      · exact hi
      · rw [List.getElem?_append_right (by simpa using hi)] at h2
        rw [List.getElem?_replicate] at h2
        split at h2 <;> cases h2
    have ha : vs[i]? = some v := by
      unfold start at h2
      rw [List.getElem?_append_left (by simpa using hi), List.getElem?_map] at h2
      cases e : vs[i]? with
      | none => rw [e] at h2; cases h2
      | some a => rw [e] at h2; cases h2; rfl
    obtain ⟨u, hu, rv⟩ := r.get ha
    have hp : ps[i]? = some y := by
      rw [← S.pre, List.getElem?_take_of_lt (by omega)]; exact h1
    have ndP : ps.Nodup := by rw [← S.pre]; exact S.nd.sublist (List.take_sublist _ _)
    refine ⟨u, rv, ?_⟩
    rcases S.par y (List.mem_of_getElem? hp) with k | k
    · exact .inl ⟨k, bindL_get ndP hp hu k⟩
    · obtain ⟨c, e⟩ := cell_has (n := s.heap.objs.size + 1) k
      refine .inr ⟨.inl k, c, e, ?_⟩
      have q := x.cell y c e
      rw [bindC_get ndP hp hu (by show scope.names.lookup y ≠ _; rw [k]; decide)] at q
      exact q
  · exact e0.hok.fresh (Nat.le_of_lt (x.above y c (PySem.mem_of_lookup h)))
  · unfold start
    show _ = N.length
    rw [List.length_append, List.length_map, List.length_replicate]
    omega

/-- THE RULE: a def (or a method) of the text, by its body. The body's reading t is chosen for each entry; it is run at the parameters' values -/
theorem fn_of {CX : CXT} {P : Program} {w : World} {K : PySem.W.Frag} {mg : Str → Option Value} {base : Heap} {k : Nat} {f : Addr} {name qual : Str} {params : Arguments} {body : List Stmt} {scope : Scope} {dV kV doc pm cdv ct oc : Value} {an od : Option Addr}
    {osl : Array (Option Value)} {N ps : List Str} {sp : Sp} (lk : K.lookup f = some ⟨oc, od, .func (PySem.W.fnOf name qual params body scope dV kV doc pm an cdv ct), osl⟩) (hcd : PySem.W.codeIn K cdv qual = true) (S : FnScope N ps scope)
    (len : ∀ vs H Q E, sp vs H Q E → vs.length = ps.length)
    (hbody : ∀ (A : Around) (outer : List Env) (s : Shared) (H : Hp) (vs : List V) (Q : VK) (E : XK), Room k (A.deeper (envOfC qual scope s.heap.objs.size f cdv)) → sp vs H Q E →
      ∃ t, PSs (cxOf CX P w K mg base N qual scope f cdv A outer s H E) body t ∧ t { nx := fun _ H' => Q .non H', rt := Q } (start N vs) H) :
    FnOk P w K mg base CX (k + 1) f (PySem.W.fnOf name qual params body scope dV kV doc pm an cdv ct) ps sp := by
  refine ⟨len, fun A outer s H args us vs Q E hr e0 hb r hsp => ?_⟩
  have hl := len _ _ _ _ hsp
  have KX : K.In s.heap := e0.mod.kin.keeps fun b o e => (e0.bs b o e).1
  have lim : s.heap.NoLimit := e0.mod.nolimit.keeps fun b o e => (e0.bs b o e).1
  have hkind : ∀ y ∈ ps.zip us, scope.names.lookup y.1 = some .local ∨ (scope.names.lookup y.1 = some .cell ∧ ((cellsFrom (s.heap.objs.size + 1) scope.names []).lookup y.1).isSome = true) := fun ⟨n, v⟩ hy => by
    rcases S.par n (List.of_mem_zip hy).1 with q | q
    · exact .inl q
    · exact .inr ⟨q, PySem.W.cellsFrom_some _ _ _ (.inl q)⟩
  refine codeAny_call_function hr.depth (KX _ _ lk) rfl S.co S.gen rfl (PySem.W.codeRec_of KX hcd) (hb _ _ _ _ ?_)
  refine wpAny_newFunctionEnv_cells S.kind hkind fun env he s1 x => ?_
  subst he
  refine ⟨lim.keeps x.toInCall.keep, codeAny_func ?_⟩
  obtain ⟨t, ht, hq⟩ := hbody A outer s H vs Q E (hr.deeper _) hsp
  have I : Inv (cxOf CX P w K mg base N qual scope f cdv A outer s H E) [] (start N vs) H s1 := inv_start S hr.hd e0 hl r x
  refine wpAny_mono (ht [] s1 (start N vs) H _ I hq) (fun fl s' hs => ?_) fun e s' hs => hs
  have fin : ∀ {σ' : St} {H' : Hp} {v : V} {u : Value}, Inv (cxOf CX P w K mg base N qual scope f cdv A outer s H E) [] σ' H' s' → RelV v u → Q v H' → CE outer P w H s Q u s' :=
    fun {σ' H' v u} J rv q => ⟨v, H', J.os, J.bare, J.base, J.hok, rv, q⟩
  cases fl with
  | ret u =>
    obtain ⟨v, σ', H', J, rv, q⟩ := hs
    exact fin J rv q
  | next =>
    obtain ⟨σ', H', J, q⟩ := hs
    exact fin (v := V.non) (u := Value.none) J rfl q
  | brk =>
    obtain ⟨_, _, _, q⟩ := hs
    exact False.elim q
  | cont =>
    obtain ⟨_, _, _, q⟩ := hs
    exact False.elim q
end L2

namespace L2
open PySem PySem.Spec PyProof.Rows
section
variable {X : Cx} {x : Str} {p pos : Pos} {e : Expr} {es : List Expr} {t : TA} {id T : String} {r : List V → Hp → VK → Prop}

def tCB (r : List V → Hp → VK → Prop) (t : TA) : TE := fun σ H Q => t σ H fun vs H1 => r vs H1 Q
/-- f(e, ..), f a built-in function -/
theorem pe_callB (hc : CallR X (.builtin id) r) (hg : Gl X x) (hm : X.mg x = none) (hv : bootBuiltins x = some (.builtin id)) (ha : PA X (e :: es) t) (hn : x ≠ "__name__" := by decide) (hdb : (x == ("__debug__" : Str)) = false := by decide)
    (he : starEach (e :: es) X.env = (false, eval e X.env) :: starEach es X.env := by rfl) (hpl : (backTo pos (starEach es X.env)).any (·.1) = false := by rfl) : PE X (.Call (.Name x p) (e :: es) [] pos) (tCB r t) := by
  intro pins s σ H Q I h
  refine wpAny_Call_Name_kw (ld_blt I hg hm hv ?_ hn hdb)
  exact PyProof.Rows.callWith_builtin1 (thn (ha pos pins s σ H _ I h) fun us s1 ⟨vs, H1, I1, r1, q1⟩ => hc pins s1 σ H1 vs us Q I1 r1 q1) he hpl
/-- T(e, ..), T a built-in type -/
theorem pe_callTy (hc : CallR X (.type T) r) (hg : Gl X x) (hm : X.mg x = none) (hv : bootBuiltins x = some (.type T)) (ha : PA X (e :: es) t) (hn : x ≠ "__name__" := by decide) (hdb : (x == ("__debug__" : Str)) = false := by decide)
    (he : starEach (e :: es) X.env = (false, eval e X.env) :: starEach es X.env := by rfl) (hpl : (backTo pos (starEach es X.env)).any (·.1) = false := by rfl) : PE X (.Call (.Name x p) (e :: es) [] pos) (tCB r t) := by
  intro pins s σ H Q I h
  refine wpAny_Call_Name_kw (ld_blt I hg hm hv ?_ hn hdb)
  exact PyProof.Rows.callWith_type1 (thn (ha pos pins s σ H _ I h) fun us s1 ⟨vs, H1, I1, r1, q1⟩ => hc pins s1 σ H1 vs us Q I1 r1 q1) he hpl
end
end L2

namespace HT
open PySem PyProof.Rows

section
open PySem.SeqAt
open PySem.AutoSeq1 (wpAny_loadPart')
open PySem.MeetsSeq PySem.MeetsSeq2 PySem.MeetsSeq3

end

section
variable {prog : Program} {w : World} {A : Around} {E : Value → Shared → Prop} {s : Shared}

/-! ### t[a:b], not the whole -/
/-- a slice's bound as a place among n (d where it is left out) -/
def sIx (n d : Nat) : Option Int → Nat
  | none => d
  | some v => if v < 0 then (v + (n : Int)).toNat else min v.toNat n
theorem sIx_none (n d : Nat) : sIx n d none = d := rfl
theorem sIx_nat (n d k : Nat) : sIx n d (some (k : Int)) = min k n := by
  show (if (k : Int) < 0 then ((k : Int) + (n : Int)).toNat else min (k : Int).toNat n) = min k n
  rw [if_neg (by omega), Int.toNat_natCast]
end
end HT

namespace L2
open PySem PySem.Spec PyProof.Rows

/-! ### the parts of a slice -/
abbrev TO := St → Hp → (Option Int → Hp → Prop) → Prop
/-- a slice's part (left out, or an int) -/
def PO (X : Cx) (e : Option Expr) (t : TO) : Prop :=
  ∀ (pins : List (Addr × Obj)) (s : Shared) (σ : St) (H : Hp) (Q : Option Int → Hp → Prop), Inv X pins σ H s → t σ H Q →
    wpAny (model X.prog X.w) X.A (evalPart e X.env) (fun u s' => ∃ o H', Inv X pins σ H' s' ∧ IsPart u o ∧ Q o H') X.xe s
def tNoPart : TO := fun _ H Q => Q none H
def tPart (t : TE) : TO := fun σ H Q => t σ H fun x H1 => ∃ i, x = .int i ∧ Q (some i) H1

section
variable {X : Cx} {e : Expr} {te : TE} {lo hi : Option Expr} {tl th : TO} {pos p2 : Pos}

theorem po_none : PO X none tNoPart := by
  intro pins s σ H Q I h
  rw [evalPart_none]
  exact wpAny_pure ⟨none, H, I, .none, h⟩
theorem po_some (h : PE X e te) : PO X (some e) (tPart te) := by
  intro pins s σ H Q I hw
  rw [evalPart_some]
  refine thn (h pins s σ H _ I hw) fun u s1 ⟨x, H1, I1, r1, q1⟩ => ?_
  obtain ⟨i, rfl, q⟩ := q1
  obtain ⟨t, rfl⟩ := r1
  exact ⟨some i, H1, I1, .int i t, q⟩

/-- what a slice of a value is, by values: the slice object stands at sl -/
def SlR (X : Cx) (r : V → Option Int → Option Int → Hp → VK → Prop) : Prop :=
  ∀ (pins : List (Addr × Obj)) (s : Shared) (σ : St) (H : Hp) (x : V) (v vl vu : Value) (lo hi : Option Int) (sl : Addr) (Q : VK), Inv X pins σ H s → RelV x v → s.heap.IsSliceOf sl vl vu .none → IsPart vl lo → IsPart vu hi → r x lo hi H Q →
    ∃ T id, typeLookup (.type T) "__getitem__" = pure (some (.builtin id)) ∧ s.TypeIs v T ∧ wpAny (model X.prog X.w) X.A (getItem v (.ref sl)) (EP X pins σ Q) X.xe s
def tSl (r : V → Option Int → Option Int → Hp → VK → Prop) (te : TE) (tl th : TO) : TE := fun σ H Q => te σ H fun x H1 => tl σ H1 fun l H2 => th σ H2 fun u H3 => r x l u H3 Q
/-- a[lo:hi], any a -/
theorem pe_slice {r : V → Option Int → Option Int → Hp → VK → Prop} (hr : SlR X r) (he : PE X e te) (hl : PO X lo tl) (hu : PO X hi th) : PE X (.Subscript e (.Slice lo hi none p2) pos) (tSl r te tl th) := by
  intro pins s σ H Q I h
  refine Subscript_ (thn (he pins s σ H _ I h) fun v s1 ⟨x, H1, I1, r1, q1⟩ => ?_)
  refine wpAny_Slice (thn (hl pins s1 σ H1 _ I1 q1) fun vl s2 ⟨l, H2, I2, pl, q2⟩ => thn (hu pins s2 σ H2 _ I2 q2) fun vu s3 ⟨u, H3, I3, pu, q3⟩ => ?_)
  rw [evalPart_none]
  refine wpAny_pure ?_
  have I4 : Inv X pins σ H3 { s3 with heap := s3.heap.push { cls := .type "slice", data := .fields #[vl, vu, .none] } } := I3.kept (t' := s3.toks) fun b ob q => Heap.get?_push_of_some _ q
  obtain ⟨T, id, hT, ht, hg⟩ := hr pins { s3 with heap := s3.heap.push { cls := .type "slice", data := .fields #[vl, vu, .none] } } σ H3 x v vl vu l u s3.heap.objs.size Q I4 r1 (Heap.IsSliceOf.new ..) pl pu q3
  show wpAny (model X.prog X.w) X.A (subscriptTail e (.Slice lo hi none p2) v (.ref s3.heap.objs.size)) (EP X pins σ Q) X.xe { s3 with heap := s3.heap.push { cls := .type "slice", data := .fields #[vl, vu, .none] } }
  exact tail_any (ops := [.ref s3.heap.objs.size, v]) ht hT hg (by with_unfolding_all rfl)

/-- the items of xs[lo:hi] -/
def cutV (xs : List V) (lo hi : Option Int) : List V := (xs.drop (HT.sIx xs.length 0 lo)).take (HT.sIx xs.length xs.length hi - HT.sIx xs.length 0 lo)
theorem cutV_length (xs : List V) (lo hi : Option Int) : (cutV xs lo hi).length ≤ xs.length := by
  unfold cutV
  rw [List.length_take, List.length_drop]
  omega
/-! ### t < u, t + u -/
end
end L2

namespace L2
open PySem PySem.Spec PyProof.Rows

/-! ### places -/
/-- the place that an index of any sign means -/
def ixN (n : Nat) (i : Int) : Option Nat := if 0 ≤ i then (if i < n then some i.toNat else none) else if -(n : Int) ≤ i then some (i + n).toNat else none
def atI {α : Type} (xs : List α) (i : Int) : Option α := (ixN xs.length i).bind fun j => xs[j]?
theorem ixN_seq {n : Nat} {i : Int} {j : Nat} (h : ixN n i = some j) : seqIndex? i n = some j ∧ j < n ∧ -(n : Int) ≤ i ∧ i < n := by
  unfold ixN at h
  by_cases h0 : 0 ≤ i
  · rw [if_pos h0] at h
    by_cases h1 : i < n
    · rw [if_pos h1] at h
      have e : i.toNat = j := Option.some.inj h
      exact ⟨by rw [seqIndex_of h0 h1, e], by omega, by omega, h1⟩
    · rw [if_neg h1] at h; cases h
  · rw [if_neg h0] at h
    by_cases h1 : -(n : Int) ≤ i
    · rw [if_pos h1] at h
      have e : (i + n).toNat = j := Option.some.inj h
      exact ⟨by rw [seqIndex_neg (by omega) h1, e], by omega, h1, by omega⟩
    · rw [if_neg h1] at h; cases h
theorem atI_get {α : Type} {xs : List α} {i : Int} {v : α} (h : atI xs i = some v) : ∃ j, seqIndex? i xs.length = some j ∧ xs[j]? = some v ∧ j < xs.length ∧ -(xs.length : Int) ≤ i ∧ i < xs.length := by
  unfold atI at h
  cases e : ixN xs.length i with
  | none => rw [e] at h; cases h
  | some j =>
    rw [e] at h
    obtain ⟨h1, h2, h3, h4⟩ := ixN_seq e
    exact ⟨j, h1, h, h2, h3, h4⟩
theorem atI_nat {α : Type} {xs : List α} {j : Nat} {v : α} (h : xs[j]? = some v) : atI xs (j : Int) = some v := by
  have hj : j < xs.length := (List.getElem?_eq_some_iff.mp h).1
  have e : ixN xs.length (j : Int) = some j := by
    unfold ixN
    rw [if_pos (by omega), if_pos (by omega)]; simp
  unfold atI; rw [e]; exact h
/-! ### what may be subscripted -/
/-- what stands as an index of a plain subscript -/
def PlainIx (b : Expr) : Prop := ∀ o i, subscripted b false o i = operate [o, i] (getItem o i)
/-- a subscript by values -/
def IxR (X : Cx) (r : R2) : Prop :=
  ∀ (value slice : Expr) (pins : List (Addr × Obj)) (s : Shared) (σ : St) (H : Hp) (x y : V) (v u : Value) (Q : VK), Inv X pins σ H s → RelV x v → RelV y u → r x y H Q →
    subscripted slice false v u = operate [v, u] (getItem v u) → wpAny (model X.prog X.w) X.A (subscriptTail value slice v u) (EP X pins σ Q) X.xe s
/-- a call of a builtin's method by values: the receiver, the arguments -/
def MtR (X : Cx) (id : String) (r : V → List V → Hp → VK → Prop) : Prop :=
  ∀ (pins : List (Addr × Obj)) (s : Shared) (σ : St) (H : Hp) (x : V) (xs : List V) (v : Value) (us : List Value) (Q : VK), Inv X pins σ H s → RelV x v → Vals xs us → r x xs H Q →
    wpAny (model X.prog X.w) X.A (call (.builtin id) (v :: us)) (EP X pins σ Q) X.xe s
section
variable {X : Cx} {a b : Expr} {ta tb : TE} {pos : Pos}
/-- a[b] -/
theorem pe_ix {r : R2} (hr : IxR X r) (ha : PE X a ta) (hb : PE X b tb) (hs : PlainIx b) : PE X (.Subscript a b pos) (tOp r ta tb) := by
  intro pins s σ H Q I h
  exact Subscript_ (binT ha hb I h fun v u s2 x y H2 I2 rx ry q => hr a b pins s2 σ H2 x y v u Q I2 rx ry q (hs _ _))

def rIxL (K : PySem.W.Frag) : R2 := fun x y H Q => ∃ p xs i v, x = .ref p ∧ y = .int i ∧ SqL K H p xs ∧ atI xs i = some v ∧ Q v H
def rIxT (K : PySem.W.Frag) : R2 := fun x y H Q => ∃ p xs i v, x = .ref p ∧ y = .int i ∧ SqT K H p xs ∧ atI xs i = some v ∧ Q v H
theorem ix_list : IxR X (rIxL X.K) := by
  intro value slice pins s σ H x y v u Q I rx ry h hs
  obtain ⟨p, xs, i, z, rfl, rfl, hq, he, q⟩ := h
  cases rx
  obtain ⟨t, rfl⟩ := ry
  obtain ⟨its, r, pl, hz⟩ := I.list hq
  obtain ⟨j, h1, h2, h3, h4, h5⟩ := atI_get he
  obtain ⟨w, ew, rw'⟩ := r.get h2
  have hl := r.length
  have hn := line63
  have fin : EP X pins σ Q w s := ⟨z, H, I, rw', q⟩
  by_cases h0 : 0 ≤ i
  · have hj : i.toNat = j := by
      rw [seqIndex_of h0 h5] at h1
      exact Option.some.inj h1
    exact item_listR pl.isList h0 (by omega) (by rw [hj]; simpa using ew) fin hs
  · have hj : (i + (its.toArray.size : Int)).toNat = j := by
      rw [seqIndex_neg (by omega) h4] at h1
      rw [List.size_toArray, ← hl]
      exact Option.some.inj h1
    exact subscriptTail_builtinR (x := w) pl.isList.typeIs slot_list_getitem.lookup
      (wpAny_getItem_list_neg (Q := fun r s' => r = w ∧ EP X pins σ Q r s') pl.isList (by omega) (by rw [List.size_toArray] <;> omega) (by omega) (by rw [hj]; simpa using ew) ⟨rfl, fin⟩) hs
theorem ix_tup : IxR X (rIxT X.K) := by
  intro value slice pins s σ H x y v u Q I rx ry h hs
  obtain ⟨p, xs, i, z, rfl, rfl, hq, he, q⟩ := h
  cases rx
  obtain ⟨t, rfl⟩ := ry
  obtain ⟨its, r, pl, hz⟩ := I.tuple hq
  obtain ⟨j, h1, h2, h3, h4, h5⟩ := atI_get he
  obtain ⟨w, ew, rw'⟩ := r.get h2
  have hl := r.length
  have hn := line63
  have fin : EP X pins σ Q w s := ⟨z, H, I, rw', q⟩
  exact subscriptTail_builtinR (x := w) pl.typeIs slot_tuple_getitem.lookup
    (getItem_tuple (j := j) (Q := fun r s' => r = w ∧ EP X pins σ Q r s') pl (by omega) (by omega) (by rw [List.size_toArray, ← hl]; exact h1) (by simpa using ew) ⟨rfl, fin⟩) hs
/-! ### xs[i] = v, any sign -/
/-- the list's object behind a store -/
theorem mapSeq_set (its : List Value) (n j : Nat) (u : Value) : Obj.mapSeq (·.setIfInBounds j u) { cls := .type "list", data := .seq its.toArray n } = { cls := .type "list", data := .seq (its.set j u).toArray n } := by
  simp [Obj.mapSeq]
theorem Inv.lst {pins : List (Addr × Obj)} {σ : St} {H : Hp} {s : Shared} {p : Addr} {xs : List V} (I : Inv X pins σ H s) (h : H p = some (.lst xs)) :
    ∃ (its : List Value) (n : Nat), Vals xs its ∧ s.heap.get? p = some { cls := .type "list", data := .seq its.toArray n } ∧ xs.length ≤ sizeLine := by
  obtain ⟨z, its, n, r, e⟩ := I.hok p _ h
  exact ⟨its, n, r, e, z⟩
/-- the list at p is written by an update of its object -/
theorem Inv.lstUpd {pins : List (Addr × Obj)} {σ : St} {H : Hp} {s : Shared} {p : Addr} {xs ys : List V} {its its' : List Value} {n n' : Nat} {f : Obj → Obj} (I : Inv X pins σ H s) (h : H p = some (.lst xs))
    (ho : s.heap.get? p = some { cls := .type "list", data := .seq its.toArray n }) (hf : f { cls := .type "list", data := .seq its.toArray n } = { cls := .type "list", data := .seq its'.toArray n' }) (r : Vals ys its') (hz : ys.length ≤ sizeLine) (t : Nat) :
    Inv X pins σ (upd H p (.lst ys)) { s with heap := s.heap.update p f, toks := t } := by
  have e : (s.heap.update p f).get? p = some { cls := .type "list", data := .seq its'.toArray n' } := by
    rw [Heap.get?_update_self f ho (by rw [hf] <;> rfl), hf]
  refine I.write (x := p) (e := p) (by rw [h]; trivial) (.inl rfl) (fun b u hb q => (Heap.get?_update_other _ _ (Ne.symm hb)).trans q) ⟨_, e⟩ ?_
  exact ⟨hz, its', n', r, e⟩
def rSetL : V → V → V → Hp → (Hp → Prop) → Prop := fun o i v H Q => ∃ p xs k j, o = .ref p ∧ i = .int k ∧ H p = some (.lst xs) ∧ ixN xs.length k = some j ∧ Q (upd H p (.lst (xs.set j v)))
theorem set_list : PSet X rSetL := by
  intro pins s σ H o i v ov iv u Q I ro ri rv h
  obtain ⟨p, xs, k, j, rfl, rfl, hp, hj, q⟩ := h
  cases ro
  obtain ⟨t, rfl⟩ := ri
  obtain ⟨its, n, r, ho, hz⟩ := I.lst hp
  obtain ⟨h1, h2, h3, h4⟩ := ixN_seq hj
  have hl := r.length
  have hn := line63
  have I' : Inv X pins σ (upd H p (.lst (xs.set j v))) { s with heap := s.heap.update p (Obj.mapSeq (·.setIfInBounds j u)) } :=
    I.lstUpd hp ho (mapSeq_set its n j u) (r.set rv j) (by rw [List.length_set]; exact hz) s.toks
  by_cases h0 : 0 ≤ k
  · have hk : k.toNat = j := by
      rw [seqIndex_of h0 h4] at h1
      exact Option.some.inj h1
    exact PySem.W.ki_setAt ho h0 (by omega) (by rw [List.size_toArray, ← hl]; exact h4) (by rw [hk]; exact ⟨_, I', q⟩)
  · have hk : (k + (its.toArray.size : Int)).toNat = j := by
      rw [seqIndex_neg (by omega) h3] at h1
      rw [List.size_toArray, ← hl]
      exact Option.some.inj h1
    exact PySem.W.ki_setBack ho (by omega) (by rw [List.size_toArray, ← hl]; exact h3) (by omega) (by rw [hk]; exact ⟨_, I', q⟩)

/-! ### slices -/
theorem slice_bounds (lo hi : Option Int) (n : Nat) : (sliceBounds lo hi none n).1 = ((HT.sIx n 0 lo : Nat) : Int) ∧ (sliceBounds lo hi none n).2.1 = ((HT.sIx n n hi : Nat) : Int) ∧ (sliceBounds lo hi none n).2.2 = 1 := by
  refine ⟨?_, ?_, rfl⟩
  · cases lo with
    | none => simp [sliceBounds, HT.sIx]
    | some i =>
      simp only [sliceBounds, HT.sIx, Option.getD_none, show (1 : Int) > 0 by decide, if_true]
      by_cases h : i < 0
      · simp only [h, if_true] <;> omega
      · simp only [h, if_false] <;> omega
  · cases hi with
    | none => simp [sliceBounds, HT.sIx]
    | some i =>
      simp only [sliceBounds, HT.sIx, Option.getD_none, show (1 : Int) > 0 by decide, if_true]
      by_cases h : i < 0
      · simp only [h, if_true] <;> omega
      · simp only [h, if_false] <;> omega
theorem slicePick_cut (its : List Value) (lo hi : Option Int) : slicePick its.toArray lo hi none = ((its.drop (HT.sIx its.length 0 lo)).take (HT.sIx its.length its.length hi - HT.sIx its.length 0 lo)).toArray := by
  obtain ⟨h1, h2, h3⟩ := slice_bounds lo hi its.toArray.size
  unfold slicePick
  rw [h1, h2, h3]
  simp only [sliceRange_one, pick_run, List.size_toArray] <;> rfl
/-- xs[lo:hi] of a list: a new list -/
def rSlL (K : PySem.W.Frag) : V → Option Int → Option Int → Hp → VK → Prop := fun x lo hi H Q => ∃ a xs, x = .ref a ∧ SqL K H a xs ∧ ∀ p, H p = none → Q (.ref p) (upd H p (.lst (cutV xs lo hi)))
theorem sl_list : SlR X (rSlL X.K) := by
  intro pins s σ H x v vl vu lo hi sl Q I rx hs pl pu h
  obtain ⟨a, xs, rfl, hx, q⟩ := h
  cases rx
  obtain ⟨its, r, ht, hz⟩ := I.list hx
  have hlen := r.length
  refine ⟨"list", _, slot_list_getitem.lookup, ht.isList.typeIs, ?_⟩
  refine wpAny_getItem_list_slice ht.isList hs pl pu .none (by simp) ?_ (by rw [List.size_toArray] <;> omega)
  rw [slicePick_cut, ← hlen]
  refine ⟨.ref s.heap.objs.size, _, I.laid (t' := s.toks) (o := .lst (cutV xs lo hi)) (fun b ob q => Heap.get?_push_of_some _ q) (Nat.le_refl _) ?_, rfl, q _ (I.hok.fresh (Nat.le_refl _))⟩
  exact ⟨Nat.le_trans (cutV_length xs lo hi) hz, _, 0, (r.drop (HT.sIx xs.length 0 lo)).take (HT.sIx xs.length xs.length hi - HT.sIx xs.length 0 lo), Heap.get?_push_size _ rfl⟩

/-! ### in, not in: flat items -/
def flatV : V → Bool
  | .non => true
  | .bl _ => true
  | .int _ => true
  | .str _ => true
  | _ => false
/-- == of flat values -/
def eqV : V → V → Bool
  | .non, .non => true
  | .bl a, .bl b => a == b
  | .bl a, .int b => (if a then 1 else 0) == b
  | .int a, .bl b => a == (if b then 1 else 0)
  | .int a, .int b => a == b
  | .str a, .str b => a == b
  | _, _ => false
theorem eqAt_V {A : Around} {s : Shared} {y x : V} {u v : Value} (ry : RelV y u) (rx : RelV x v) (fy : flatV y = true) (fx : flatV x = true) : SeqAt.EqAt A s u v (eqV y x) := by
  cases y with
  | non =>
    cases ry
    cases x with
    | non => cases rx; exact SeqAt.EqAt.same _
    | bl b => cases rx; exact SeqAt.EqAt.none_bool b
    | int b => obtain ⟨t, rfl⟩ := rx; exact SeqAt.EqAt.none_int b t
    | str b => obtain ⟨t, rfl⟩ := rx; exact SeqAt.EqAt.none_str b t
    | _ => exact absurd (show false = true from fx) Bool.false_ne_true
  | bl a =>
    cases ry
    cases x with
    | non => cases rx; exact SeqAt.EqAt.bool_none a
    | bl b => cases rx; exact SeqAt.EqAt.bool_bool a b
    | int b => obtain ⟨t, rfl⟩ := rx; exact SeqAt.EqAt.bool_int a b t
    | str b => obtain ⟨t, rfl⟩ := rx; exact SeqAt.EqAt.bool_str a b t
    | _ => exact absurd (show false = true from fx) Bool.false_ne_true
  | int a =>
    obtain ⟨t', rfl⟩ := ry
    cases x with
    | non => cases rx; exact SeqAt.EqAt.int_none a t'
    | bl b => cases rx; exact SeqAt.EqAt.int_bool a t' b
    | int b => obtain ⟨t, rfl⟩ := rx; exact SeqAt.EqAt.int_int a t' b t
    | str b => obtain ⟨t, rfl⟩ := rx; exact SeqAt.EqAt.int_str a t' b t
    | _ => exact absurd (show false = true from fx) Bool.false_ne_true
  | str a =>
    obtain ⟨t', rfl⟩ := ry
    cases x with
    | non => cases rx; exact SeqAt.EqAt.str_none a t'
    | bl b => cases rx; exact SeqAt.EqAt.str_bool a t' b
    | int b => obtain ⟨t, rfl⟩ := rx; exact SeqAt.EqAt.str_int a t' b t
    | str b => obtain ⟨t, rfl⟩ := rx; exact SeqAt.EqAt.str_str a t' b t
    | _ => exact absurd (show false = true from fx) Bool.false_ne_true
  | _ => exact absurd (show false = true from fy) Bool.false_ne_true
/-- the items' answers, read off the values (a value's own answer does not lean on its token) -/
def eqU (x : V) (u : Value) : Bool := match u with
  | .none => eqV .non x
  | .bool b => eqV (.bl b) x
  | .int i _ => eqV (.int i) x
  | .str z _ => eqV (.str z) x
  | _ => false
theorem eqU_of {x y : V} {u : Value} (r : RelV y u) (f : flatV y = true) : eqU x u = eqV y x := by
  cases y with
  | non => cases r; rfl
  | bl b => cases r; rfl
  | int i => obtain ⟨t, rfl⟩ := r; rfl
  | str z => obtain ⟨t, rfl⟩ := r; rfl
  | _ => exact absurd (show false = true from f) Bool.false_ne_true
theorem any_eqU {x : V} : ∀ {xs : List V} {us : List Value}, Vals xs us → xs.all flatV = true → us.any (eqU x) = xs.any fun y => eqV y x
  | _, _, .nil, _ => rfl
  | y :: xs, u :: us, .cons r t, f => by
    rw [List.all_cons, Bool.and_eq_true] at f
    rw [List.any_cons, List.any_cons, eqU_of r f.1, any_eqU t f.2]
theorem mem_eqAt {A : Around} {s : Shared} {x : V} {v : Value} (rx : RelV x v) (fx : flatV x = true) : ∀ {xs : List V} {us : List Value}, Vals xs us → xs.all flatV = true → ∀ u ∈ us, SeqAt.EqAt A s u v (eqU x u)
  | _, _, .nil, _ => fun u hu => by cases hu
  | y :: xs, u :: us, .cons r t, f => fun u' hu => by
    rw [List.all_cons, Bool.and_eq_true] at f
    rcases List.mem_cons.mp hu with rfl | hu
    · rw [eqU_of r f.1]; exact eqAt_V r rx f.1 fx
    · exact mem_eqAt rx fx t f.2 u' hu
def inV (x : V) (xs : List V) : Bool := xs.any fun y => eqV y x
/-- x in a list or tuple of flat items -/
def rIn (K : PySem.W.Frag) (neg : Bool) : R2 := fun x y H Q => ∃ p xs, y = .ref p ∧ (SqL K H p xs ∨ SqT K H p xs) ∧ flatV x = true ∧ xs.all flatV = true ∧ Q (.bl (if neg then !inV x xs else inV x xs)) H
theorem op_in_seq : OpR X (compareOp .In) (rIn X.K false) := by
  intro pins s σ H x y v u Q I rx ry h
  obtain ⟨p, xs, rfl, hq, fx, fs, q⟩ := h
  cases ry
  rcases hq with hq | hq
  · obtain ⟨its, r, pl, hz⟩ := I.list hq
    refine SeqAt.in_listAt (eqU x) pl.isList (fun w hw => mem_eqAt rx fx r fs w (by simpa using hw)) ⟨.bl _, H, I, rfl, ?_⟩
    rw [show its.toArray.any (eqU x) = its.any (eqU x) by simp, any_eqU r fs]
    exact q
  · obtain ⟨its, r, pl, hz⟩ := I.tuple hq
    refine SeqAt.in_tupleAt (eqU x) pl (fun w hw => mem_eqAt rx fx r fs w (by simpa using hw)) ⟨.bl _, H, I, rfl, ?_⟩
    rw [show its.toArray.any (eqU x) = its.any (eqU x) by simp, any_eqU r fs]
    exact q
/-! ### len, list(x), tuple(x) of any list or tuple that is read -/
theorem call_len_seq : CallR X (.builtin "len") (fun xs H Q => ∃ p ys, xs = [.ref p] ∧ (SqL X.K H p ys ∨ SqT X.K H p ys) ∧ Q (.int ys.length) H) := by
  intro pins s σ H xs us Q I r h
  obtain ⟨p, ys, rfl, hq, q⟩ := h
  obtain ⟨u, rfl, rx⟩ := vals1 r
  cases rx
  have hn := line63
  rcases hq with hq | hq
  · obtain ⟨its, r', pl, hz⟩ := I.list hq
    have hlen := r'.length
    exact Calls.call_len_list pl.isList (by simp only [List.size_toArray] <;> omega) ⟨.int ys.length, H, I.tok _, ⟨s.toks + 1, by rw [List.size_toArray, hlen]⟩, q⟩
  · obtain ⟨its, r', pl, hz⟩ := I.tuple hq
    have hlen := r'.length
    exact len_tuple pl (by simp only [List.size_toArray] <;> omega) ⟨.int ys.length, H, I.tok _, ⟨s.toks + 1, by rw [List.size_toArray, hlen]⟩, q⟩
theorem call_list_of : CallR X (.type "list") (fun xs H Q => ∃ p ys, xs = [.ref p] ∧ (SqL X.K H p ys ∨ SqT X.K H p ys) ∧ ∀ l, H l = none → Q (.ref l) (upd H l (.lst ys))) := by
  intro pins s σ H xs us Q I r h
  obtain ⟨p, ys, rfl, hq, q⟩ := h
  obtain ⟨u, rfl, rx⟩ := vals1 r
  cases rx
  have fin : ∀ (its : List Value), Vals ys its → ys.length ≤ sizeLine → ∀ (h' : Heap) (c' : Nat), (∀ b o', s.heap.get? b = some o' → h'.get? b = some o') →
      h'.get? s.heap.objs.size = some { cls := .type "list", dict := none, data := .seq its.toArray c', slots := #[] } → EP X pins σ Q (.ref s.heap.objs.size) { s with heap := h' } := fun its r' hz h' c' kp e =>
    ⟨.ref s.heap.objs.size, _, I.laid (t' := s.toks) kp (Nat.le_refl _) (show ObjOk X.prog X.w _ h' _ (.lst ys) from ⟨hz, its, c', r', e⟩), rfl, q _ (I.hok.fresh (Nat.le_refl _))⟩
  rcases hq with hq | hq
  · obtain ⟨its, r', pl, hz⟩ := I.list hq
    have hlen := r'.length
    obtain ⟨o, ho, hc, n, hd⟩ := pl.isList
    exact call_list_seq p (.inl rfl) ho hc hd (fun h' c' kp e => fin its r' hz h' c' kp e) (by simp only [List.size_toArray] <;> omega)
  · obtain ⟨its, r', pl, hz⟩ := I.tuple hq
    have hlen := r'.length
    obtain ⟨o, ho, hc, n, hd⟩ := pl
    exact call_list_seq p (.inr rfl) ho hc hd (fun h' c' kp e => fin its r' hz h' c' kp e) (by simp only [List.size_toArray] <;> omega)
/-! ### the call of a builtin's method: o.m(..) -/
/-- the value is of that builtin type -/
def tyV (K : PySem.W.Frag) (T : String) (x : V) (H : Hp) : Prop := match x with
  | .str _ => T = "str"
  | .int _ => T = "int"
  | .ref p => (T = "list" ∧ ∃ xs, SqL K H p xs) ∨ (T = "tuple" ∧ ∃ o, K.lookup p = some o ∧ o.cls = .type "tuple" ∧ o.dict = none) ∨
      (T = "dict" ∧ ((∃ kvs, H p = some (.dK kvs)) ∨ ∃ kvs, H p = some (.dT kvs))) ∨ (T = "set" ∧ ∃ S n, H p = some (.set S n))
  | _ => False
theorem tyV_is {pins : List (Addr × Obj)} {σ : St} {H : Hp} {s : Shared} {T : String} {x : V} {v : Value} (I : Inv X pins σ H s) (r : RelV x v) (ty : tyV X.K T x H) :
    s.TypeIs v T ∧ ∀ a, v = .ref a → ∃ ob, s.heap.get? a = some ob ∧ ob.dict = none := by
  cases x with
  | str z =>
    obtain ⟨t, rfl⟩ := r
    cases (show T = "str" from ty)
    exact ⟨typeIs_str s z t, fun _ e => nomatch e⟩
  | int i =>
    obtain ⟨t, rfl⟩ := r
    cases (show T = "int" from ty)
    exact ⟨typeIs_int s i t, fun _ e => nomatch e⟩
  | ref p =>
    cases r
    rcases ty with ⟨rfl, xs, hq⟩ | ⟨rfl, o, hk, hc, hd⟩ | ⟨rfl, hk⟩ | ⟨rfl, S, n, hk⟩
    · obtain ⟨its, _, pl, _⟩ := I.list hq
      refine ⟨pl.isList.typeIs, fun a e => ?_⟩
      cases e
      obtain ⟨o, n, e, c, hd, _⟩ := pl
      exact ⟨o, e, hd⟩
    · refine ⟨⟨o, I.kIn p o hk, hc⟩, fun a e => ?_⟩
      cases e
      exact ⟨o, I.kIn _ o hk, hd⟩
    · have z : ∃ o, s.heap.get? p = some o ∧ o.ExactDict := by
        rcases hk with ⟨kvs, hk⟩ | ⟨kvs, hk⟩
        · obtain ⟨_, _, _, _, o, _, _, e, ex, _⟩ := I.hok p _ hk
          exact ⟨o, e, ex⟩
        · obtain ⟨_, _, _, _, o, _, _, e, ex, _⟩ := I.hok p _ hk
          exact ⟨o, e, ex⟩
      obtain ⟨o, e, ex⟩ := z
      refine ⟨⟨o, e, ex.1⟩, fun a e2 => ?_⟩
      cases e2
      exact ⟨o, e, ex.2.1⟩
    · obtain ⟨o, _, _, _, e, ex, _⟩ := I.hok p _ hk
      refine ⟨⟨o, e, ex.1⟩, fun a e2 => ?_⟩
      cases e2
      exact ⟨o, e, ex.2.1⟩
  | _ => exact False.elim ty
def tBM (K : PySem.W.Frag) (T : String) (r : V → List V → Hp → VK → Prop) (to : TE) (t : TA) : TE := fun σ H Q => to σ H fun x H1 => tyV K T x H1 ∧ t σ H1 fun xs H2 => r x xs H2 Q
variable {o e : Expr} {es : List Expr} {to : TE} {t : TA} {name : Str} {apos cpos : Pos} {T id : String} {r : V → List V → Hp → VK → Prop}
theorem pe_bm (pa : PlainAttrs T) (slot : Slot T name id) (hty : typeOf (.builtin id) = pure (.type "method_descriptor")) (hm : MtR X id r) (ho : PE X o to) (ha : PA X (e :: es) t)
    (hbase : attributeBase o name X.env (eval o X.env) = eval o X.env := by rfl)
    (hfew : ((backTo cpos (starEach (e :: es) X.env)).all (fun x => !x.1) && (backToKw cpos (keywordEach [] X.env)).all (fun x => x.1.isSome)
      && decide ((e :: es).length + ([] : List Keyword).length + (if ([] : List Keyword).isEmpty then 0 else 1) < 30)) = true := by rfl)
    (hline : (apos.endLine == cpos.line) = true := by rfl) (hs : starEach (e :: es) X.env = (false, eval e X.env) :: starEach es X.env := by rfl) (hplain : (backTo cpos (starEach es X.env)).any (·.1) = false := by rfl) :
    PE X (.Call (.Attribute o name apos) (e :: es) [] cpos) (tBM X.K T r to t) := by
  intro pins s σ H Q I h
  refine wpAny_Call_method_late hbase hfew hline rfl (thn (ho pins s σ H _ I h) fun v s1 ⟨x, H1, I1, r1, ty, q1⟩ => ?_)
  obtain ⟨h1, h2⟩ := tyV_is I1 r1 ty
  refine ⟨T, id, pa, slot, hty, h1, h2, ?_⟩
  have hA := ha cpos pins s1 σ H1 _ I1 q1
  rw [hs] at hA ⊢
  refine Calls.callWith_builtin (by show (false || (backTo cpos (starEach es X.env)).any (·.1)) = false; rw [hplain] <;> rfl) (Calls.evalArgs_plain ?_)
  exact thn hA fun us s2 ⟨vs, H2, I2, r2, q2⟩ => hm pins s2 σ H2 x vs v us Q I2 r1 r2 q2
/- xs.append(e), list.index on a module's tuple .. are MtR facts of 06m -/
end
end L2

namespace L2
open PySem PySem.Spec PyProof.Rows

def MtM (X : Cx) (id : String) (r : V → List V → Hp → VK → Prop) : Prop :=
  ∀ (pins : List (Addr × Obj)) (s : Shared) (σ : St) (H : Hp) (x : V) (xs : List V) (v : Value) (us : List Value) (Q : VK), Inv X pins σ H s → RelV x v → Vals xs us → r x xs H Q →
    wpAny (model X.prog X.w) X.A (call (.builtin id) (v :: us)) (EP X pins σ Q) X.xe s

/-! ### lists of values -/
theorem Vals.one {x : V} {us : List Value} (h : Vals [x] us) : ∃ u, us = [u] ∧ RelV x u := by
  cases h with
  | cons r t => cases t; exact ⟨_, rfl, r⟩
theorem Vals.rep {xs : List V} {us : List Value} (h : Vals xs us) : ∀ k : Nat, Vals (List.replicate k xs).flatten (List.replicate k us).flatten
  | 0 => .nil
  | k + 1 => by
    rw [List.replicate_succ, List.replicate_succ, List.flatten_cons, List.flatten_cons]
    exact Vals.append h (Vals.rep h k)
theorem foldl_rep (its : List Value) : ∀ (k : Nat) (acc : List Value),
    List.foldl (fun x1 x2 => x1 ++ x2) acc.toArray (List.replicate k its.toArray) = (acc ++ (List.replicate k its).flatten).toArray
  | 0, acc => by simp
  | k + 1, acc => by
    have e : acc.toArray ++ its.toArray = (acc ++ its).toArray := by simp
    have e2 : (acc ++ its) ++ (List.replicate k its).flatten = acc ++ (List.replicate (k + 1) its).flatten := by
      rw [List.replicate_succ, List.flatten_cons, List.append_assoc]
    rw [← e2, ← foldl_rep its k (acc ++ its), ← e, List.replicate_succ, List.foldl_cons]

section
variable {X : Cx} {pins : List (Addr × Obj)} {σ : St} {H : Hp} {s : Shared} {l b : Addr} {xs ys zs : List V}

/-! ### the two steps: a tracked list is rewritten, a new list is laid -/
theorem Inv.lset {its its' : List Value} {n : Nat} {f : Array Value → Array Value} {t' : Nat} (I : Inv X pins σ H s) (hH : H l = some (.lst xs))
    (e : s.heap.get? l = some { cls := .type "list", data := .seq its.toArray n }) (hf : f its.toArray = its'.toArray) (hv : Vals ys its') (hz : ys.length ≤ sizeLine) :
    Inv X pins σ (upd H l (.lst ys)) { s with heap := s.heap.update l (Obj.mapSeq f), toks := t' } := by
  have q := PySem.IsL.update e f
  rw [hf] at q
  refine I.write (x := l) (e := l) (by rw [hH]; exact trivial) (.inl rfl) (fun b' u hb hu => (Heap.get?_update_other s.heap (Obj.mapSeq f) (Ne.symm hb)).trans hu) ⟨_, q⟩ ?_
  exact ⟨hz, its', _, hv, q⟩
theorem Inv.lnew {its : List Value} {t' : Nat} (I : Inv X pins σ H s) (hv : Vals ys its) (hz : ys.length ≤ sizeLine) :
    Inv X pins σ (upd H s.heap.objs.size (.lst ys)) { s with heap := s.heap.push { cls := .type "list", data := .seq its.toArray }, toks := t' } :=
  I.laid (fun _ _ q => Heap.get?_push_of_some _ q) (Nat.le_refl _) ⟨hz, its, 0, hv, Heap.get?_push_size _ rfl⟩
theorem Inv.fresh (I : Inv X pins σ H s) : H s.heap.objs.size = none := I.hok.fresh (Nat.le_refl _)
theorem Inv.lstM (I : Inv X pins σ H s) (hH : H l = some (.lst xs)) : xs.length ≤ sizeLine ∧ ∃ (its : List Value) (n : Nat), Vals xs its ∧ xs.length = its.length ∧ s.heap.get? l = some { cls := .type "list", data := .seq its.toArray n } := by
  obtain ⟨z, its, n, r, e⟩ := I.hok l _ hH
  exact ⟨z, its, n, r, r.length, e⟩

theorem notLongL {n : Nat} (h : n ≤ sizeLine) : Builtin.List.listTooLong n = false := by
  unfold Builtin.List.listTooLong
  exact decide_eq_false (by omega)
end

section
variable {X : Cx}

/-! ### methods -/
def rAppend : V → List V → Hp → VK → Prop := fun x vs H Q => ∃ l xs y, x = .ref l ∧ vs = [y] ∧ H l = some (.lst xs) ∧ xs.length < sizeLine ∧ Q .non (upd H l (.lst (xs ++ [y])))
theorem mt_append : MtM X "list.append" rAppend := by
  intro pins s σ H x vs v us Q I rx rv h
  obtain ⟨l, xs, y, rfl, rfl, hH, hz, q⟩ := h
  cases rx
  obtain ⟨u, rfl, ru⟩ := rv.one
  obtain ⟨z, its, n, r, hl, e⟩ := I.lstM hH
  refine call_meets F.slot_list_append ⟨_, e, rfl⟩ F.entry_list_append (F.args_list_append_2 _ _) (PySem.list_append l its.toArray n u (by rw [List.size_toArray]; omega)) ⟨e, ?_⟩
  refine ⟨.non, _, I.lset (its' := its ++ [u]) hH e (by simp) (r.append (.cons ru .nil)) ?_, rfl, q⟩
  rw [List.length_append, List.length_singleton]
  omega

/-! ### list + list, list += list, list * int -/
def rCat : R2 := fun x y H Q => ∃ l b xs zs, x = .ref l ∧ y = .ref b ∧ H l = some (.lst xs) ∧ H b = some (.lst zs) ∧ xs.length + zs.length ≤ sizeLine ∧ ∀ p, H p = none → Q (.ref p) (upd H p (.lst (xs ++ zs)))
theorem op_cat : OpR X (binaryOp .Add) rCat := by
  intro pins s σ H x y v u Q I rx ry h
  obtain ⟨l, b, xs, zs, rfl, rfl, hH, hB, hz, q⟩ := h
  cases rx
  cases ry
  obtain ⟨z, its, n, r, hl, e⟩ := I.lstM hH
  obtain ⟨z2, its2, n2, r2, hl2, e2⟩ := I.lstM hB
  refine PySem.P.add_list e e2 ?_ (by rw [List.size_toArray, List.size_toArray]; omega)
  have ea : its.toArray ++ its2.toArray = (its ++ its2).toArray := by simp
  rw [ea]
  exact ⟨.ref _, _, I.lnew (t' := s.toks) (r.append r2) (by rw [List.length_append]; omega), rfl, q _ I.fresh⟩
/-- a list times an int (a negative one is nothing) -/
def rRep : R2 := fun x y H Q => ∃ l k xs, x = .ref l ∧ y = .int k ∧ H l = some (.lst xs) ∧ -(2 ^ 63) ≤ k ∧ k < 2 ^ 63 ∧ xs.length * k.toNat ≤ sizeLine ∧
  ∀ p, H p = none → Q (.ref p) (upd H p (.lst (List.replicate k.toNat xs).flatten))
theorem len_rep {α : Type} (xs : List α) (k : Nat) : (List.replicate k xs).flatten.length = k * xs.length := by
  induction k with
  | zero => simp
  | succ k ih => rw [List.replicate_succ, List.flatten_cons, List.length_append, ih, Nat.succ_mul, Nat.add_comm]
theorem op_rep : OpR X (binaryOp .Mult) rRep := by
  intro pins s σ H x y v u Q I rx ry h
  obtain ⟨l, k, xs, rfl, rfl, hH, h1, h2, hz, q⟩ := h
  cases rx
  obtain ⟨t, rfl⟩ := ry
  obtain ⟨z, its, n, r, hl, e⟩ := I.lstM hH
  have hlen : its.toArray.size * k.toNat ≤ sizeLine := by rw [List.size_toArray, ← hl]; exact hz
  have hcap : ¬ its.toArray.size * k.toNat > (2 ^ 63 - 1) / 8 := by
    have : (sizeLine : Nat) ≤ (2 ^ 63 - 1) / 8 := by decide
    omega
  have hfit : ¬ (!Builtin.List.listFitsIndex k) = true := by
    rw [fitsIndex_both h1 h2]
    exact Bool.false_ne_true
  have hlong : ¬ Builtin.List.listTooLong (its.toArray.size * k.toNat) = true := by
    rw [notLongL hlen]
    exact Bool.false_ne_true
  have hnew : List.foldl (fun x1 x2 => x1 ++ x2) #[] (List.replicate (if its.toArray.isEmpty = true then 0 else k.toNat) its.toArray) = (List.replicate k.toNat its).flatten.toArray := by
    have f0 : ∀ m : Nat, List.foldl (fun x1 x2 => x1 ++ x2) #[] (List.replicate m its.toArray) = (List.replicate m its).flatten.toArray := fun m => by
      have := foldl_rep its m []
      rw [List.nil_append] at this
      exact this
    rw [f0]
    cases its with
    | nil => simp
    | cons a r' => rw [if_neg (by simp)]
  refine wpAny_binaryOp_repeat_ref (T := "list") (U := "int") (by decide) ⟨_, e, rfl⟩ (fun s' => typeIs_int s' k t) noFill_list_mul F.fills_int_mul F.slot_int_rmul repeat_list F.slot_int_index.lookup
    (call_meets F.slot_int_rmul (typeIs_int s k t) F.entry_int_rmul (F.args_int_rmul_2 _ _) (int___rmul___int_list k t l its.toArray n)
      ⟨e, rfl, ⟨_, e, rfl⟩, call_meets F.slot_list_mul ⟨_, e, rfl⟩ F.entry_list_mul (F.args_list_mul_2 _ _) (AutoListH.list___mul___list_int_3 l its.toArray n k t hfit hcap hlong) ⟨e, ?_⟩⟩)
  rw [hnew]
  exact ⟨.ref _, _, I.lnew (t' := s.toks) (r.rep k.toNat) (by rw [len_rep, Nat.mul_comm]; exact hz), rfl, q _ I.fresh⟩

/-! ### del xs[i] -/
end

/-! ### xs[a:b] = ys -/
section
variable {prog : Program} {w : World} {A : Around} {E : Value → Shared → Prop} {s : Shared}
end

section
variable {X : Cx}
end
end L2

namespace L2
open PySem PySem.Spec PyProof.Rows

/-! ### lists of pairs as tables -/
section
variable {κ : Type} [DecidableEq κ]
end


/-! ### a tracked dict, its keys ints and texts or tuples of these -/
section
variable {P : Program} {w : World} {H : Hp} {h : Heap} {a : Addr}
end

section
variable {X : Cx} {pins : List (Addr × Obj)} {σ : St} {H : Hp} {s : Shared} {a : Addr} {y v : V} {u r : Value} {o : Option V} {A : Around} {E : Value → Shared → Prop}

end

section
variable {X : Cx} {pins : List (Addr × Obj)} {σ : St} {H : Hp} {s : Shared} {a : Addr} {kvs : List (Key × V)} {k : Key} {u : Value} {A : Around} {E : Value → Shared → Prop}
end


/-! ### readings and rules -/
section
variable {X : Cx} {o i e value : Expr} {pos pos' tpos : Pos} {td ty tv : TE}
end


/-! ### displays -/
section
variable {X : Cx} {pos : Pos}
end

/-! ### methods -/
/-- a method call o.m(e) of a built-in, with one argument: what must be seen of the text -/
structure M1 (X : Cx) (o : Expr) (m : Str) (apos : Pos) (e : Expr) (cpos : Pos) : Prop where
  base : attributeBase o m X.env (eval o X.env) = eval o X.env
  few : ((backTo cpos (starEach [e] X.env)).all (fun x => !x.1) && (backToKw cpos (keywordEach [] X.env)).all (fun x => x.1.isSome)
    && decide (([e] : List Expr).length + ([] : List Keyword).length + (if ([] : List Keyword).isEmpty then 0 else 1) < 30)) = true
  line : (apos.endLine == cpos.line) = true
  trees : backTo cpos (starEach [e] X.env) = [(false, eval e X.env)]
structure M2 (X : Cx) (o : Expr) (m : Str) (apos : Pos) (e f : Expr) (cpos : Pos) : Prop where
  base : attributeBase o m X.env (eval o X.env) = eval o X.env
  few : ((backTo cpos (starEach [e, f] X.env)).all (fun x => !x.1) && (backToKw cpos (keywordEach [] X.env)).all (fun x => x.1.isSome)
    && decide (([e, f] : List Expr).length + ([] : List Keyword).length + (if ([] : List Keyword).isEmpty then 0 else 1) < 30)) = true
  line : (apos.endLine == cpos.line) = true
  trees : backTo cpos (starEach [e, f] X.env) = [(false, eval e X.env), (false, eval f X.env)]

section
variable {X : Cx} {pins : List (Addr × Obj)} {σ : St} {H : Hp} {s : Shared} {a : Addr} {y d : V} {u r : Value} {o : Option V} {A : Around} {E : Value → Shared → Prop}
end

section
variable {X : Cx} {o e f : Expr} {apos cpos : Pos} {td ty tx : TE}
end

/-! ### dict(d): a copy -/
section
variable {X : Cx} {pins : List (Addr × Obj)} {σ : St} {H : Hp} {s : Shared} {a : Addr} {kvs : List (Key × V)} {A : Around} {E : Value → Shared → Prop}
end


section
variable {X : Cx} {pins : List (Addr × Obj)} {σ : St} {H : Hp} {s : Shared} {a : Addr} {y : V} {u : Value} {A : Around} {E : Value → Shared → Prop}
end
end L2

namespace Att
open PySem PySem.W PySem.Calls PyProof.Rows

/-! ### the script -/
theorem ints_of_wellAll {P : Params} {h : Heap} : ∀ (ns : List Int) (vs : List Value), WellAll P h vs (ns.map WData.int) → IntsAre vs ns := by
  intro ns
  induction ns with
  | nil =>
    intro vs w
    rw [List.map_nil] at w
    cases w
    exact .nil
  | cons n ns ih =>
    intro vs w
    rw [List.map_cons] at w
    cases w with
    | cons a b =>
      cases a
      exact .cons _ _ (ih _ b)

theorem script_of {l : OpenLaw} {n : Nat} (hn : l.most = some n) {P : Params} {h : Heap} {args : List WData} {vals : List Value}
    (hpre : l.row.toRowW.claim.pre args = true) (hwl : WellAll P h vals args) :
    ∃ a vs ns, vals = [Value.ref a] ∧ args = [WData.list (ns.map WData.int)] ∧ h.get? a = some { cls := .type "list", data := .seq vs.toArray } ∧ IntsAre vs ns ∧ ns.length ≤ n := by
  have hsh : WShape.hasAll [] args [.list .int] = true := (pre_splitW hpre).1
  have hc : l.pre.holds [] { args := args } = true := (pre_splitW hpre).2
  obtain ⟨d, r, rfl, h1, h2⟩ := hasAllW_cons hsh
  obtain rfl := hasAllW_nil h2
  obtain ⟨xs, rfl, h3⟩ := hasW_list h1
  obtain ⟨ns, rfl⟩ := items_int h3
  have hlen : ns.length ≤ n := by
    unfold OpenLaw.pre at hc
    have h4 : (WTm.not (.lt (.lit (.int (n : Int))) (.len (.arg 0)))).holds [] { args := [.list (ns.map .int)] } = true := by
      have h4 := (holds_andW hc).1
      rw [hn] at h4
      exact h4
    have h5 := condW_of h4 (w_not (w_lt w_lit (w_len_list (w_arg rfl))))
    rw [List.length_map] at h5
    refine Nat.le_of_not_lt fun q => ?_
    have q' : (n : Int) < ((ns.length : Nat) : Int) := by omega
    first
      | (rw [decide_eq_true q'] at h5; exact absurd h5 (by decide))
      | (simp at h5; omega)
  cases hwl with
  | cons w1 w2 =>
    cases w2
    cases w1 with
    | list ho hall => exact ⟨_, _, ns, rfl, rfl, ho, ints_of_wellAll ns _ hall, hlen⟩

theorem post_true (l : OpenLaw) (args : List WData) : l.row.toRowW.claim.post args (.bool true) args = true :=
  postW_of (r := l.row.toRowW) (X := (true == true))
    (show WShape.has [] (.bool true) .bool = true by first | rfl | decide | simp [WShape.has, WShape.arms, WShape.armsAll])
    (show (WTm.eq .res (.lit (.bool true))).value [] { args := args, res := some (.bool true), after := args } = some (.bool (true == true)) from w_eq_bool (w_res rfl) w_lit) rfl

/-! ### the attachment: holds_open's last premise (the goal 'hc' behind k_head) from a wpAny of the law's body -/
/-- the same from a codeAny of the CALL (for a layer whose function contracts speak of calls) -/
theorem attach_call {l : OpenLaw} {n : Nat} {q : Program} {loose : List Str} {XP : (Str → Option Value) → Heap → Prop} {YP : World → Heap → Prop} {d : DefRec}
    (hn : l.most = some n) (hdf : d.params.defaults = [])
    (call : ∀ (w : World) (s₀ s₁ : Shared) (mg mb : Str → Option Value) (fa : Addr) (o : Obj) (pm cd doc : Value) (a : Addr) (vs : List Value) (ns : List Int),
      Ground q loose [] XP w s₀ mg mb s₁.heap → YP w s₁.heap →
      s₁.heap.get? fa = some o → o.data = .func (docDef d.name d.params d.body d.scope pm cd doc) → s₁.heap.CodeRec cd d.name → mg d.name = some (.ref fa) →
      s₁.heap.get? a = some { cls := .type "list", data := .seq vs.toArray } → IntsAre vs ns → ns.length ≤ n → s₁.gens = #[] →
      codeAny (model l.prog w) callerA (.call (.ref fa) ⟨[.ref a], []⟩) (fun r s' => r = .ok (.ret (.bool true)) ∧ OldK s₁.heap s'.heap ∧ s'.os = s₁.os ∧ AllBare s'.gens) s₁) :
    WalkO q loose XP YP l.row.toRowW d [] (fun f vs => PySem.call f vs) := by
  intro w s₀ s₁ mg mb G Y fa o pm cd doc dV kV ho hd hcd hD hmg hg args vals as hpre hlay hrd hwl hlo
  obtain rfl : dV = .none := Dflts.none hD hdf
  obtain rfl : kV = .none := Dflts.noKw hD
  obtain ⟨a, vs, ns, rfl, rfl, hobj, hints, hlen⟩ := script_of hn hpre hwl
  refine enter_call (codeAny_mono (call w s₀ s₁ mg mb fa o pm cd doc a vs ns G Y ho (fd_plain hd) hcd hmg hobj hints hlen hg) fun r s' hq => ?_)
  obtain ⟨rfl, h2, h3, h4⟩ := hq
  exact ⟨.inl ⟨.bool true, .bool true, [], rfl, fun _ => rfl, .bool true, post_true l _, fun _ => ⟨List.Pairwise.nil, fun _ hm => (nomatch hm)⟩⟩, h2, h3, h4⟩

/-! ### rules over ANY heap (no ledger) from facts about the written part K: the library's own take a ledger (News) for what they write -/
section
variable {prog : Program} {w : World} {A : Around} {E : Value → Shared → Prop} {s : Shared} {K : Frag}

/-! the whole heap as the ledger: makes every rule that writes through a ledger a rule over any heap -/
def ledger (h : Heap) (L d : Addr) : List (Addr × Obj) := (List.range h.objs.size).filterMap fun a => if a = L ∨ a = d then none else (h.get? a).map fun o => (a, o)
end
end Att

namespace L2
open PySem PySem.Spec PyProof.Rows

theorem vals_ints {vs : List Value} {ns : List Int} (h : IntsAre vs ns) : Vals (ns.map V.int) vs := by
  induction h with
  | nil => exact .nil
  | cons n t h ih => exact .cons ⟨t, rfl⟩ ih

/-- nothing is tracked but the script, known to the object (or it is an object of the module) -/
def Only (H : Hp) : Prop := ∀ b, H b = none ∨ ∃ o xs, H b = some (.frz o (.lst xs))

/-- THE HEAD: the law's promise, at the heap behind the top. F, the promise of the law's def, may use that base is part of the heap (so K.In base, base.Ns mainGlobals mg stand in Mod) -/
theorem law_call {P : Program} {w : World} {K : PySem.W.Frag} {mg mb : Str → Option Value} {CX : CXT} {k : Nat} {fa a : Addr} {fd : FuncData} {x : Str} {sp : Sp} {s₁ : Shared} {vs : List Value} {ns : List Int}
    (KX : K.In s₁.heap) (hns : s₁.heap.Ns mainGlobals mg) (hb : s₁.heap.Ns builtinsNs mb) (hbb : ∀ x : Str, x ≠ "__name__" → mb x = bootBuiltins x) (hlim : s₁.heap.NoLimit) (hg : s₁.gens = #[])
    (ha : s₁.heap.get? a = some { cls := .type "list", data := .seq vs.toArray }) (hi : IntsAre vs ns) (hl : ns.length ≤ sizeLine) (hr : Room k callerA)
    (F : ∀ base : Heap, K.In base → base.Ns mainGlobals mg → FnOk P w K mg base CX k fa fd [x] sp) (hbind : ∀ (s : Shared) (u : Value), BindsTo s fd ⟨[u], []⟩ [(x, u)])
    (hsp : ∀ H : Hp, Only H → SqL K H a (ns.map V.int) → sp [.ref a] H (fun v _ => v = .bl true) fun _ _ _ => False)
    (hCX : ∀ H e s', CX [] H s₁ (fun _ _ _ => False) e s' → False) :
    codeAny (model P w) callerA (.call (.ref fa) ⟨[.ref a], []⟩) (fun r s' => r = .ok (.ret (.bool true)) ∧ OldK s₁.heap s'.heap ∧ s'.os = s₁.os ∧ AllBare s'.gens) s₁ := by
  have rv := vals_ints hi
  have lenV := hi.length
  -- from an abstract heap in which nothing but the script may be tracked
  have core : ∀ H : Hp, Only H → SqL K H a (ns.map V.int) → HOk P w H s₁.heap → (∀ b, H b ≠ none → b = a) → (H a ≠ none → K.lookup a = none) →
      codeAny (model P w) callerA (.call (.ref fa) ⟨[.ref a], []⟩) (fun r s' => r = .ok (.ret (.bool true)) ∧ OldK s₁.heap s'.heap ∧ s'.os = s₁.os ∧ AllBare s'.gens) s₁ := by
    intro H hO hS hok hA hK
    have base_of : ∀ {b : Addr} {o : Obj}, s₁.heap.get? b = some o → H b = none → (hidT s₁.heap H).get? b = some o := fun e n => hidT_get e n
    have noA : ∀ {b : Addr} {o : Obj} {es : Array DictEntry} {ep : Nat}, s₁.heap.get? b = some o → o.data = .dict es ep → H b = none := fun {b o es ep} e d => by
      cases q : H b with
      | none => rfl
      | some u =>
        have e' : b = a := hA b (by rw [q]; simp)
        subst e'
        rw [ha] at e; cases e
        have d' : Data.seq vs.toArray _ = Data.dict es ep := d
        cases d'
    have nsK : ∀ {b : Addr} {m : Str → Option Value}, s₁.heap.Ns b m → (hidT s₁.heap H).Ns b m := fun {b m} ⟨o, es, ep, e, d, r⟩ => ⟨o, es, ep, base_of e (noA e d), d, r⟩
    have hKb : K.In (hidT s₁.heap H) := fun b o e => base_of (KX b o e) (by
      cases q : H b with
      | none => rfl
      | some u =>
        have e' : b = a := hA b (by rw [q]; simp)
        subst e'
        rw [hK (by rw [q]; simp)] at e; cases e)
    have hM : Mod K mg (hidT s₁.heap H) := ⟨hKb, nsK hns, ⟨mb, nsK hb, hbb⟩, let ⟨mc, h1, h2⟩ := hlim; ⟨mc, nsK h1, h2⟩⟩
    have e0 : Env0 P w K mg (hidT s₁.heap H) callerA [] s₁ H := ⟨rfl, hM, fun b o e => of_hidT e, Nat.le_of_eq (hidT_size _ _), trivial, fun b hb => absurd (show b ∈ ([] : List Addr) from hb) (by simp), hok, .of_eq hg⟩
    refine codeAny_mono ((F _ hKb (nsK hns)).run callerA [] s₁ H ⟨[.ref a], []⟩ [.ref a] [.ref a] _ _ hr e0 (hbind s₁ (.ref a)) (.cons rfl .nil) (hsp H hO hS)) fun r s' h => ?_
    cases r with
    | error e => exact (hCX H e s' h).elim
    | ok fl =>
      cases fl with
      | next => exact False.elim h
      | brk => exact False.elim h
      | cont => exact False.elim h
      | ret u =>
        obtain ⟨v, H', os, bare, un, hok', r', q⟩ := h
        have q' : v = .bl true := q
        subst q'
        obtain rfl : u = Value.bool true := r'
        refine ⟨rfl, OldK.of_keep fun b o e => ?_, os, bare⟩
        cases q : H b with
        | none => exact un.keep b o e q (by intro z; exact absurd (show b ∈ ([] : List Addr) from z) (by simp)) (by simp)
        | some u =>
          rcases hO b with z | ⟨ob, xs, z⟩
          · rw [q] at z; cases z
          · have z2 := un.frzs b ob _ z
            obtain ⟨e1, _⟩ := hok b _ z
            obtain ⟨e2, _⟩ := hok' b _ z2
            rw [e] at e1; cases e1
            exact e2
  cases hk : K.lookup a with
  | some o =>
    -- the script is one of the module's own objects
    have e := KX a o hk
    rw [ha] at e
    cases e
    refine core (fun _ => none) (fun _ => .inl rfl) (.inr ⟨_, vs.toArray, _, hk, rfl, rfl, rfl, by rw [List.size_toArray, lenV]; exact hl, by simpa using rv⟩) (fun b u z => by have z' : (none : Option HO) = some u := z; cases z') (fun b z => absurd rfl z) fun z => absurd rfl z
  | none =>
    refine core (fun b => if b = a then some (.frz { cls := .type "list", data := .seq vs.toArray } (.lst (ns.map V.int))) else none) (fun b => ?_) (.inl (.inr ⟨{ cls := .type "list", data := .seq vs.toArray }, if_pos rfl⟩)) (fun b u z => ?_) (fun b z => ?_) fun _ => hk
    · by_cases hb : b = a
      · exact .inr ⟨_, _, if_pos hb⟩
      · exact .inl (if_neg hb)
    · by_cases hb : b = a
      · have z' := (if_pos hb).symm.trans z
        cases z'
        subst hb
        exact ⟨ha, by rw [List.length_map]; exact hl, vs, _, rv, ha⟩
      · have z' := (if_neg hb).symm.trans z
        cases z'
    · by_cases hb : b = a
      · exact hb
      · exact absurd (if_neg hb) z
end L2

namespace L2
open PySem PySem.Spec PyProof.Rows

abbrev KOf {K : PySem.W.Frag} {h : Heap} (_ : K.In h) : PySem.W.Frag := K

/-- the goal that k_head leaves (case hc), from the law's promise. F gives the function object fd (K's own) once, then the promise over every base -/
theorem walk_of {l : PySem.W.OpenLaw} {n k : Nat} {q : Program} {loose : List Str} {XP : (Str → Option Value) → Heap → Prop} {YP : World → Heap → Prop} {d : DefRec} {K : Params → PySem.W.Frag} {CX : World → CXT} {sp : World → Sp} {x : Str}
    (hn : l.most = some n) (hn2 : n ≤ sizeLine) (hdf : d.params.defaults = []) (hr : Room k callerA)
    (hY : ∀ (w : World) (h : Heap), YP w h → (K w.params).In h)
    (F : ∀ (w : World) (mg : Str → Option Value) (fa : Addr) (h : Heap), (K w.params).In h → h.Ns mainGlobals mg → mg d.name = some (.ref fa) →
      ∃ fd : FuncData, (∀ (s : Shared) (u : Value), BindsTo s fd ⟨[u], []⟩ [(x, u)]) ∧
        ∀ base : Heap, (K w.params).In base → base.Ns mainGlobals mg → FnOk l.prog w (K w.params) mg base (CX w) k fa fd [x] (sp w))
    (hsp : ∀ (w : World) (H : Hp) (a : Addr) (ns : List Int), ns.length ≤ n → Only H → SqL (K w.params) H a (ns.map V.int) → sp w [.ref a] H (fun v _ => v = .bl true) fun _ _ _ => False)
    (hCX : ∀ (w : World) (H : Hp) (s : Shared) (e : Value) (s' : Shared), CX w [] H s (fun _ _ _ => False) e s' → False) :
    PySem.W.WalkO q loose XP YP l.row.toRowW d [] (fun f vs => PySem.call f vs) := by
  refine Att.attach_call hn hdf fun w s₀ s₁ mg mb fa o pm cd doc a vs ns G Y ho hd hcd hmg hobj hints hlen hg => ?_
  have KX := hY w _ Y
  obtain ⟨fd, hb, hF⟩ := F w mg fa _ KX G.T.g hmg
  exact law_call KX G.T.g G.T.b G.T.builtins G.T.nolimit hg hobj hints (Nat.le_trans hlen hn2) hr hF hb (fun H hO hS => hsp w H a ns hlen hO hS) fun H e s' => hCX w H s₁ e s'
end L2

/- THE LAST THEOREM (shape; LID, My.* are yours):
   My.Adr: a structure of the addresses that your layer names (classes, functions); My.Txt K t: a structure (Prop) of the equations over K;
   My.txt_mk : {K} {implicit addresses ..} (e1 : nsIn K mainGlobals "law" = some (some (.ref f))) (e2 : K.lookup f = some ⟨oc, od, .func (fnOf "law" "law" params body scope dV kV doc pm an cdv ct), sl⟩) (e3 : codeIn K cdv "law" = true) .. : ∃ t, My.Txt K t

set_option maxRecDepth 100000 in
set_option maxHeartbeats 0 in
theorem PySem.Challenge.cw_LID_holds : PySem.Challenge.rw_LID.Holds := by
  w_on; o_law; k_head; (case hw => w_witness2)
  k_fill
  refine L2.walk_of (l := PySem.Challenge.rw_LID) (n := 63) (k := 40) (x := "script") (CX := fun w => ..) (sp := fun _ => My.sp_law) rfl (by decide) rfl ⟨rfl, by decide, by decide⟩ (fun w h Y => PySem.W.kIn_of Y) ?F ?S ?C
  case F =>
    intro w mg fa h KX G hmg
    have T : ∃ t, My.Txt (L2.KOf KX) t := by
      dsimp only [L2.KOf]                          -- K must stand as «<heap const> w.params» for k_is
      refine' My.txt_mk ?e1 ?e2 ?e3 ..
      (case e1 => PySem.W.k_is)                    -- in the order: a name -> its address -> its object -> its parts
      (case e2 => PySem.W.k_is)
      ..
    obtain ⟨t, T⟩ := T
    have e0 := hmg.symm.trans (PySem.W.mg_of KX G T.law)
    cases e0                                       -- fa is the law's own address
    exact ⟨_, fun s u => .of_eq rfl, fun base kb nb => My.law_fn T kb nb⟩     -- if «.of_eq rfl» comes too early: refine' ⟨_, ?b, fun base kb nb => My.law_fn T kb nb⟩; exact fun s u => .of_eq rfl
  case S => exact fun w H a ns hl hO hS => ..
  case C => exact ..
(the tactic k_is has no namespace: write k_is) -/

/-! SHORT WORDS over the layer: a def of the text, its body, what a loop and a test want. -/
namespace L2
open PySem PySem.Spec PyProof.Rows

/-! ### the text by places -/
/-- the j-th statement of a class's body -/
def inClass (s : Stmt) (j : Nat) : Stmt := match s with
  | .ClassDef _ _ _ body _ _ _ _ _ _ _ => body.getD j (.Pass ⟨0, 0, 0, 0⟩)
  | _ => .Pass ⟨0, 0, 0, 0⟩
def defArgs (s : Stmt) : Arguments := match s with
  | .FunctionDef _ a _ _ _ _ _ _ _ _ => a
  | _ => { posonlyargs := [], args := [], vararg := none, kwonlyargs := [], kw_defaults := [], kwarg := none, defaults := [] }
def defBody (s : Stmt) : List Stmt := match s with
  | .FunctionDef _ _ b _ _ _ _ _ _ _ => b
  | _ => []
def defScope (s : Stmt) : Scope := match s with
  | .FunctionDef _ _ _ _ _ _ sc _ _ _ => sc
  | _ => { kind := .function, names := [], isGenerator := false, isCoroutine := false }

/-! ### no exception leaves a def -/
abbrev CX0 : CXT := fun _ _ _ _ _ _ => False
abbrev E0 : XK := fun _ _ _ => False
theorem pass0 {X : Cx} : Passes CX0 X E0 := fun _ _ _ _ _ _ _ h => h.elim

/-! ### a def (or method) of the text as it stands behind the top -/
structure Fun (K : PySem.W.Frag) (x qual : Str) (st : Stmt) (f : Addr) (fd : FuncData) : Prop where
  ex : ∃ (oc : Value) (od : Option Addr) (kV doc pm : Value) (an : Option Addr) (cdv ct : Value) (osl : Array (Option Value)),
    fd = PySem.W.fnOf x qual (defArgs st) (defBody st) (defScope st) .none kV doc pm an cdv ct ∧ K.lookup f = some ⟨oc, od, .func fd, osl⟩ ∧ PySem.W.codeIn K cdv qual = true
  kp : PySem.W.keepIn K (.ref f) = true
section
variable {P : Program} {w : World} {K : PySem.W.Frag} {mg : Str → Option Value} {base : Heap}
/-- THE RULE for a def: its body as a term of rules, and the reading of that term -/
theorem Fun.ok {x qual : Str} {st : Stmt} {f : Addr} {fd : FuncData} {N ps : List Str} {k : Nat} {sp : Sp} (F : Fun K x qual st f fd) (S : FnScope N ps (defScope st)) (len : ∀ vs H Q E, sp vs H Q E → vs.length = ps.length)
    (hbody : ∀ (cdv : Value) (A : Around) (outer : List Env) (s : Shared) (H : Hp) (vs : List V) (Q : VK) (E : XK), Room k (A.deeper (envOfC qual (defScope st) s.heap.objs.size f cdv)) → sp vs H Q E →
      ∃ t, PSs (cxOf CX0 P w K mg base N qual (defScope st) f cdv A outer s H E).nox (defBody st) t ∧ t { nx := fun _ H' => Q .non H', rt := Q } (start N vs) H) : FnOk P w K mg base CX0 (k + 1) f fd ps sp := by
  obtain ⟨oc, od, kV, doc, pm, an, cdv, ct, osl, rfl, lk, hcd⟩ := F.ex
  refine fn_of lk hcd S len fun A outer s H vs Q E hr hsp => ?_
  obtain ⟨t, h, q⟩ := hbody cdv A outer s H vs Q E hr hsp
  exact ⟨t, h.nox, q⟩
/-- how its arguments bind (no defaults): h is «fun _ _ _ _ _ _ us hl => match us, hl with | [_, _], _ => rfl», one _ a parameter -/
theorem Fun.binds {x qual : Str} {st : Stmt} {f : Addr} {fd : FuncData} {ps : List Str} (F : Fun K x qual st f fd)
    (h : ∀ (kV doc pm : Value) (an : Option Addr) (cdv ct : Value) (us : List Value), us.length = ps.length → bindArgs (PySem.W.fnOf x qual (defArgs st) (defBody st) (defScope st) .none kV doc pm an cdv ct) ⟨us, []⟩ = pure (ps.zip us)) : Binds K fd ps [] := by
  obtain ⟨oc, od, kV, doc, pm, an, cdv, ct, osl, rfl, lk, hcd⟩ := F.ex
  exact .all (h kV doc pm an cdv ct)
theorem fun_mk {x qual : Str} {st : Stmt} {f : Addr} {oc : Value} {od an : Option Addr} {osl : Array (Option Value)} {kV doc pm cdv ct : Value} (l : K.lookup f = some ⟨oc, od, .func (PySem.W.fnOf x qual (defArgs st) (defBody st) (defScope st) .none kV doc pm an cdv ct), osl⟩)
    (c : PySem.W.codeIn K cdv qual = true) (k : PySem.W.keepIn K (.ref f) = true) : Fun K x qual st f (PySem.W.fnOf x qual (defArgs st) (defBody st) (defScope st) .none kV doc pm an cdv ct) := ⟨⟨oc, od, kV, doc, pm, an, cdv, ct, osl, rfl, l, c⟩, k⟩
end
/-! ### expressions in short: the name that stands in the i-th slot -/
section
variable {X : Cx}
theorem pv (i : Nat) {x : Str} {pos : Pos} (hN : X.N[i]? = some x := by rfl) (hv : Vis X.env.scope x := by first | exact Or.inl rfl | exact Or.inr (Or.inl rfl) | exact Or.inr (Or.inr rfl)) (hd : (x == ("__debug__" : Str)) = false := by decide)
    (hcd : (x == ("__classdict__" : Str)) = false := by decide) : PE X (.Name x pos) (tVar i) := pe_var hN hv hd hcd
end

/-! ### tests -/
theorem iteF {A B : Prop} (h : B) : if false = true then A else B := by
  rw [if_neg Bool.false_ne_true]
  exact h
theorem iteT {A B : Prop} (h : A) : if true = true then A else B := by
  rw [if_pos rfl]
  exact h
theorem ite2 {c A B : Prop} [Decidable c] (h1 : c → A) (h2 : ¬ c → B) : if c then A else B := by
  by_cases h : c
  · rw [if_pos h]
    exact h1 h
  · rw [if_neg h]
    exact h2 h
theorem iteNS {c A B : Prop} [Decidable c] (hc : c) (h : B) : if (!decide c) = true then A else B := by
  rw [decide_eq_true hc]
  exact iteF h

/-! ### heaps -/
/-- all that was tracked is as it was -/
def Same (H H' : Hp) : Prop := ∀ b o, H b = some o → H' b = some o
theorem Same.refl (H : Hp) : Same H H := fun _ _ h => h
theorem Same.trans {H H1 H2 : Hp} (a : Same H H1) (b : Same H1 H2) : Same H H2 := fun c o h => b c o (a c o h)
theorem Same.free {H H' : Hp} (e : Same H H') {l : Addr} (h : H' l = Option.none) : H l = Option.none := by
  cases q : H l with
  | none => rfl
  | some o =>
    rw [e l o q] at h
    cases h
theorem Same.seq {K : PySem.W.Frag} {H H' : Hp} {a : Addr} {xs : List V} (e : Same H H') (h : SqL K H a xs) : SqL K H' a xs := by
  rcases h with (h | ⟨o, h⟩) | h
  · exact .inl (.inl (e _ _ h))
  · exact .inl (.inr ⟨o, e _ _ h⟩)
  · exact .inr h

/-! ### a dict's pairs: keys that differ -/
section
variable {κ : Type} [DecidableEq κ]
end
end L2

set_option Elab.async false
set_option linter.all false
set_option maxRecDepth 100000
set_option maxHeartbeats 4000000
namespace L2
open PySem PySem.Spec PyProof.Rows

theorem natlt {a n : Addr} (h : a < n) : @LT.lt Nat _ a n := h
/-! ### a comprehension's block -/
/-- the cells that a block takes along -/
def clOf (env : Env) : List (Str × NameKind) → List (Str × Addr) → List (Str × Addr)
  | [], acc => acc
  | (n, k) :: r, acc => if k == .free then clOf env r ((n, (env.cells.lookup n).getD 0) :: acc) else clOf env r acc
theorem closure_eq {env : Env} {scope : Scope} (h : ∀ y ∈ scope.names, y.2 = .free → (env.cells.lookup y.1).isSome = true) : closureFor scope env = pure (clOf env scope.names []) := by
  have go : ∀ (ns : List (Str × NameKind)) (acc : List (Str × Addr)), (∀ y ∈ ns, y.2 = .free → (env.cells.lookup y.1).isSome = true) →
      (forIn ns acc (fun x cs => match x with | (name, kind) => if (kind == .free) = true then do let c ← cellOf env name; pure (ForInStep.yield ((name, c) :: cs)) else pure (ForInStep.yield cs)) : Sem (List (Str × Addr))) = pure (clOf env ns acc) := by
    intro ns
    induction ns with
    | nil => intro acc _; rfl
    | cons y r ih =>
      intro acc hy
      obtain ⟨n, k⟩ := y
      rw [List.forIn_cons]
      by_cases hk : k = .free
      · subst hk
        have hs := hy (n, .free) List.mem_cons_self rfl
        obtain ⟨c, hc⟩ := Option.isSome_iff_exists.mp hs
        have e : cellOf env n = pure c := by unfold cellOf; rw [hc]
        show _ = pure (clOf env r ((n, (env.cells.lookup n).getD 0) :: acc))
        rw [← ih _ fun y hm => hy y (List.mem_cons_of_mem _ hm)]
        simp only [beq_self_eq_true, if_true, e, pure_bind, hc, Option.getD_some]
      · have hb : (k == NameKind.free) = false := by simpa using hk
        have hc : clOf env ((n, k) :: r) acc = clOf env r acc := by
          show (if (k == NameKind.free) = true then _ else _) = _
          rw [if_neg (by rw [hb]; decide)]
        rw [hc, ← ih _ fun y hm => hy y (List.mem_cons_of_mem _ hm)]
        simp only [hb, Bool.false_eq_true, if_false, pure_bind]
  have q := go scope.names [] h
  unfold closureFor
  show (forIn scope.names [] _ >>= fun r => pure r) = _
  rw [bind_pure]
  exact q
theorem clOf_lookup {env : Env} : ∀ (ns : List (Str × NameKind)) (acc : List (Str × Addr)) (x : Str), (∀ y ∈ ns, y.2 = .free → (env.cells.lookup y.1).isSome = true) →
    (clOf env ns acc).lookup x = if (x, NameKind.free) ∈ ns then env.cells.lookup x else acc.lookup x
  | [], acc, x, _ => by simp [clOf]
  | (n, k) :: r, acc, x, h => by
    have hr : ∀ y ∈ r, y.2 = .free → (env.cells.lookup y.1).isSome = true := fun y hm => h y (List.mem_cons_of_mem _ hm)
    by_cases hk : k = .free
    · subst hk
      show (clOf env r ((n, (env.cells.lookup n).getD 0) :: acc)).lookup x = _
      rw [clOf_lookup r _ x hr]
      obtain ⟨c, hc⟩ := Option.isSome_iff_exists.mp (h (n, .free) List.mem_cons_self rfl)
      have hc : env.cells.lookup n = some c := hc
      by_cases hm : (x, NameKind.free) ∈ r
      · rw [if_pos hm, if_pos (List.mem_cons_of_mem _ hm)]
      · rw [if_neg hm]
        by_cases e : x = n
        · subst e
          rw [if_pos List.mem_cons_self, List.lookup_cons, hc]
          simp
        · rw [if_neg (fun z => (List.mem_cons.mp z).elim (fun q => e (congrArg Prod.fst q)) hm), List.lookup_cons]
          have : (x == n) = false := by simpa using e
          rw [this]
    · have hb : (k == NameKind.free) = false := by simpa using hk
      have hc : clOf env ((n, k) :: r) acc = clOf env r acc := by
        show (if (k == NameKind.free) = true then _ else _) = _
        rw [if_neg (by rw [hb]; decide)]
      rw [hc, clOf_lookup r acc x hr]
      have : ((x, NameKind.free) ∈ (n, k) :: r) ↔ (x, NameKind.free) ∈ r := by
        constructor
        · intro z
          rcases List.mem_cons.mp z with q | q
          · exact absurd (congrArg Prod.snd q).symm hk
          · exact q
        · exact List.mem_cons_of_mem _
      simp only [this]

theorem relabel_lookup (env : Env) : ∀ (ns : List (Str × NameKind)) (x : Str),
    (ns.map fun (n, k) => if (k == .free && env.scope.kind == .function && env.kindOf n == some .cell) then (n, NameKind.cell) else (n, k)).lookup x =
      (ns.lookup x).map fun k => if (k == .free && env.scope.kind == .function && env.kindOf x == some .cell) = true then NameKind.cell else k
  | [], x => rfl
  | (n, k) :: r, x => by
    show List.lookup x ((if (k == NameKind.free && env.scope.kind == .function && env.kindOf n == some .cell) = true then (n, NameKind.cell) else (n, k)) :: _) = _
    cases hx : x == n with
    | true =>
      have e : x = n := by simpa using hx
      subst e
      by_cases hc : (k == NameKind.free && env.scope.kind == .function && env.kindOf x == some .cell) = true
      · rw [if_pos hc]; simp only [List.lookup_cons, hx, Option.map_some, if_pos hc]
      · rw [if_neg hc]; simp only [List.lookup_cons, hx, Option.map_some, if_neg hc]
    | false =>
      have ih := relabel_lookup env r x
      by_cases hc : (k == NameKind.free && env.scope.kind == .function && env.kindOf n == some .cell) = true
      · rw [if_pos hc]; simp only [List.lookup_cons, hx]; exact ih
      · rw [if_neg hc]; simp only [List.lookup_cons, hx]; exact ih

/-- the block's names: its own first, then those that it takes along: the outer names at the places caps -/
structure CompScope (N own : List Str) (caps : List Nat) (XN : List Str) (outer scope : Scope) : Prop where
  kind : scope.kind = .function
  nocell : ∀ y ∈ scope.names, y.2 ≠ .cell
  names : ∀ y ∈ scope.names, y.2 = .local → scope.names.lookup y.1 = some .local
  free : ∀ y ∈ scope.names, y.2 = .free → outer.names.lookup y.1 = some .cell ∨ outer.names.lookup y.1 = some .free
  nd : N.Nodup
  len : N.length = own.length + caps.length
  cap : ∀ (j : Nat), j < caps.length → N[own.length + j]? = XN[caps.getD j 0]? ∧ ∃ x, N[own.length + j]? = some x ∧ (x, NameKind.free) ∈ scope.names ∧ scope.names.lookup x = some .free

def st0 (own : List Str) (caps : List Nat) (σ : St) : St := own.map (fun _ => none) ++ caps.map (fun i => (σ[i]?).join)

def cxComp (X : Cx) (scope : Scope) (C : Addr) (N : List Str) (s : Shared) (H : Hp) (fp : List Addr) : Cx :=
  { X with N := N, s₀ := s, H₀ := H, env := compEnvC scope (clOf X.env scope.names []) C X.env, outer := X.stack, ex := fp, fn := fun _ => false, pn := [], xe := fun _ _ => False }

section
variable {X : Cx} {pins : List (Addr × Obj)} {σ : St} {H : Hp} {s : Shared} {scope : Scope} {N own : List Str} {caps : List Nat} {fp : List Addr} {C : Nat}
theorem CompScope.csome (S : CompScope N own caps X.N X.env.scope scope) (ok : X.Ok) : ∀ y ∈ scope.names, y.2 = .free → (X.env.cells.lookup y.1).isSome = true := fun y hy hf => by
  obtain ⟨c, e⟩ := ok.has y.1 (S.free y hy hf)
  rw [e]; rfl
theorem CompScope.csub (S : CompScope N own caps X.N X.env.scope scope) (ok : X.Ok) {x : Str} {c : Addr} (h : (clOf X.env scope.names []).lookup x = some c) : X.env.cells.lookup x = some c := by
  rw [clOf_lookup _ _ _ (S.csome ok)] at h
  split at h
  · exact h
  · simp at h
theorem CompScope.lookFree {S : CompScope N own caps X.N X.env.scope scope} {x : Str} (h : (relabel scope X.env).names.lookup x = some .cell ∨ (relabel scope X.env).names.lookup x = some .free) : (x, NameKind.free) ∈ scope.names := by
  have e := relabel_lookup X.env scope.names x
  have e' : (relabel scope X.env).names.lookup x = (scope.names.lookup x).map fun k => if (k == .free && X.env.scope.kind == .function && X.env.kindOf x == some .cell) = true then NameKind.cell else k := e
  rw [e'] at h
  cases q : scope.names.lookup x with
  | none => rw [q] at h; simp at h
  | some k =>
    have hm := PySem.mem_of_lookup q
    by_cases hk : k = .free
    · subst hk; exact hm
    · rw [q] at h
      have hb : (k == NameKind.free) = false := by simpa using hk
      simp only [Option.map_some, hb, Bool.false_and, Bool.false_eq_true, if_false] at h
      rcases h with h | h
      · exact absurd (Option.some.inj h) (S.nocell _ hm)
      · exact absurd (Option.some.inj h) hk

/-- the block's context is in order, and its names stand -/
theorem Inv.comp {h1 : Heap} {D : Nat} (I : Inv X pins σ H s) (S : CompScope N own caps X.N X.env.scope scope) (hfp : ∀ b ∈ fp, FpOk X pins H b) (hfo : ∀ b ∈ fp, ∃ o, s.heap.get? b = some o)
    (hD : D = s.heap.objs.size) (hC : C = s.heap.objs.size + 1) (old : ∀ b o, s.heap.get? b = some o → h1.get? b = some o) (hns : h1.Ns C (fun _ => none)) (hl : h1.get? D = some { cls := .type "list", data := .seq #[] }) {t : Nat} :
    Inv (cxComp X scope C N s H fp) [] (st0 own caps σ) (upd H D (.lst [])) { s with heap := h1, toks := t } := by
  have some' := S.csome I.ok
  have sub : ∀ {x c}, (clOf X.env scope.names []).lookup x = some c → X.env.cells.lookup x = some c := fun h => S.csub I.ok h
  have freshD : H D = none := I.hok.fresh (by rw [hD]; exact Nat.le_refl _)
  have freshC : H C = none := I.hok.fresh (by rw [hC]; exact Nat.le_succ _)
  have cellLt : ∀ x c, X.env.cells.lookup x = some c → c < s.heap.objs.size := fun x c e => by
    obtain ⟨v, z⟩ := I.cell x c e
    exact z.lt
  have fpLt : ∀ b ∈ fp, b < s.heap.objs.size := fun b hb => by
    obtain ⟨o, e⟩ := hfo b hb
    exact Heap.lt_size e
  have DC : D ≠ C := by omega
  refine ⟨⟨I.ok.mod, S.kind, I.ok.glob, I.ok.blt, by show s.heap.objs.size ≤ C; omega, fun x y c e1 e2 => I.ok.inj x y c (sub e1) (sub e2), fun x h => ?_, fun x c h => (by cases h), I.ok.hd, I.ok.frames, Or.inl rfl, fun b hb => ⟨?_, fun x c e => ?_⟩, I.bs, Nat.le_trans I.ok.bsz I.sz, fun b o e hb => ?_, fun b hb z => ?_, I.stack, I.stkFree⟩,
    rfl, I.bare, Un.laid old (by show s.heap.objs.size ≤ D; omega) freshD, ⟨_, hns, fun j x v e1 e2 e3 => ?_⟩, fun x c e => ?_, ?_, fun x c e => ?_, fun p hp => ?_, I.hok.laid old (by omega) ?_, ?_⟩
  · have hm := CompScope.lookFree (S := S) (X := X) h
    obtain ⟨c, e⟩ := Option.isSome_iff_exists.mp (some' _ hm rfl)
    exact ⟨c, by show (clOf X.env scope.names []).lookup x = _; rw [clOf_lookup _ _ _ some', if_pos hm]; exact e⟩
  · exact Nat.ne_of_lt (show @LT.lt Nat _ b C by have := natlt (fpLt b hb); omega)
  · exact (hfp b hb).2.2.2.2.1 x c (sub e)
  · rcases (hfp b hb).2.2.2.1 with z | z
    · exact I.ok.noex b o e z
    · exact absurd (Nat.lt_of_lt_of_le (Heap.lt_size e) (Nat.le_trans I.ok.bsz z)) (Nat.lt_irrefl _)
  · rcases List.mem_cons.mp (I.stkSub b z) with q | q
    · exact (hfp b hb).2.1 q
    · exact (hfp b hb).2.2.1 q
  · have e1 : N[j]? = some x := e1
    have hj : own.length ≤ j := by
      by_cases q : own.length ≤ j
      · exact q
      · exfalso
        unfold st0 at e2
        rw [List.getElem?_append_left (by simp; omega), List.getElem?_map] at e2
        cases r : own[j]? with
        | none => rw [r] at e2; cases e2
        | some a => rw [r] at e2; cases e2
    have hjl : j < N.length := (List.getElem?_eq_some_iff.mp e1).1
    have hjc : j - own.length < caps.length := by have := S.len; omega
    obtain ⟨c1, x', c2, c3, c4⟩ := S.cap (j - own.length) hjc
    rw [show own.length + (j - own.length) = j by omega] at c1 c2
    rw [e1] at c2
    cases c2
    have e2' : (σ[caps.getD (j - own.length) 0]?).join = some v := by
      unfold st0 at e2
      rw [List.getElem?_append_right (by simp; omega), List.getElem?_map, List.length_map] at e2
      rw [List.getD_eq_getElem?_getD]
      cases r : caps[j - own.length]? with
      | none => rw [r] at e2; cases e2
      | some a => rw [r] at e2; exact Option.some.inj e2
    have e2'' : σ[caps.getD (j - own.length) 0]? = some (some v) := by
      cases r : σ[caps.getD (j - own.length) 0]? with
      | none => rw [r] at e2'; cases e2'
      | some a => rw [r] at e2'; exact congrArg Option.some e2'
    have kx : X.env.kindOf x = some .cell ∨ X.env.kindOf x = some .free := S.free _ c3 rfl
    obtain ⟨m, hn, hl'⟩ := I.loc
    obtain ⟨u, r, l⟩ := hl' _ x v (by rw [← c1]; exact e1) e2'' (by rcases kx with z | z; exact .inr (.inl z); exact .inr (.inr z))
    refine ⟨u, r, .inr ⟨?_, ?_⟩⟩
    · show (relabel scope X.env).names.lookup x = some .cell ∨ (relabel scope X.env).names.lookup x = some .free
      have e : (relabel scope X.env).names.lookup x = (scope.names.lookup x).map fun k => if (k == .free && X.env.scope.kind == .function && X.env.kindOf x == some .cell) = true then NameKind.cell else k := relabel_lookup X.env scope.names x
      rw [e, c4, Option.map_some]
      split
      · exact .inl rfl
      · exact .inr rfl
    · rcases l with ⟨hk, _⟩ | ⟨_, c, hc, z⟩
      · rcases kx with q | q <;> rw [hk] at q <;> cases q
      · refine ⟨c, ?_, ?_⟩
        · show (clOf X.env scope.names []).lookup x = _
          rw [clOf_lookup _ _ _ some', if_pos c3]; exact hc
        · obtain ⟨o, ho, hd⟩ := z
          exact ⟨o, old c o ho, hd⟩
  · obtain ⟨v, o, ho, hd⟩ := I.cell x c (sub e)
    exact ⟨v, o, old c o ho, hd⟩
  · show upd H D (.lst []) C = none
    rw [upd_ne DC.symm]; exact freshC
  · show upd H D (.lst []) c = none
    rw [upd_ne (Nat.ne_of_lt (by have := natlt (cellLt x c (sub e)); omega))]; exact I.freeC x c (sub e)
  · cases hp
  · exact ⟨Nat.zero_le _, [], 0, .nil, hl⟩
  · show (own.map (fun _ => none) ++ caps.map _).length = N.length
    rw [List.length_append, List.length_map, List.length_map, S.len]

/-- behind the block -/
theorem Inv.uncomp {pins' : List (Addr × Obj)} {σ' : St} {H' : Hp} {s' : Shared} {h' : Heap} (I : Inv X pins σ H s) (hfp : ∀ b ∈ fp, FpOk X pins H b) (hC : s.heap.objs.size ≤ C) (J : Inv (cxComp X scope C N s H fp) pins' σ' H' s') (hs : Heap.SameBut C s'.heap h') :
    Inv X pins σ H' { s' with heap := h' } := by
  have nC : ∀ b o, s.heap.get? b = some o → b ≠ C := fun b o e => Nat.ne_of_lt (by have := natlt (Heap.lt_size e); omega)
  have u := J.base
  have frC : H' C = none := J.free
  refine I.call' (ch := fp) (s' := { s' with heap := h' }) J.os ⟨fun b o e n hb hx => ?_, fun b o e n hb hx => ?_, u.free, fun b o e hx => ?_, u.tups, u.frzs, u.tbls⟩ (fun a o e => (J.hok a o e).stay (fun b v hb q => ?_) (fun _ q => q) fun _ _ q => q) J.bare fun b hb => ?_
  · exact (hs.2 b (nC b o e)).trans (u.keep b o e n hb hx)
  · obtain ⟨sl, q⟩ := u.slot b o e n hb hx
    exact ⟨sl, (hs.2 b (nC b o e)).trans q⟩
  · obtain ⟨o', q⟩ := u.there b o e hx
    exact ⟨o', (hs.2 b (nC b o e)).trans q⟩
  · refine (hs.2 b ?_).trans q
    intro z
    subst z
    rcases hb with z | z
    · subst z; rw [frC] at e; cases e
    · rw [frC] at z; cases z
  · exact ⟨(hfp b hb).2.2.2.1, (hfp b hb).2.1, (hfp b hb).2.2.2.2.1, (hfp b hb).2.2.2.2.2⟩
end

section
variable {prog : Program} {w : World} {A : Around} {R : Result → Shared → Prop} {s : Shared}
theorem compLoop_any {elt target iter : Expr} {ifs : List Expr} {scope : Scope} {pos : Pos} {it acc : Value} {env : Env} (I : Nat → Shared → Prop)
    (turn : ∀ n s, I n s → wpAny (model prog w) A (pyNext it) (fun r s1 => match r with
      | none => R (.ok .next) s1
      | some v => wpAny (model prog w) A (letOwnedTupleGo target it v) (fun _ s1' => wpAny (model prog w) A (assign target env v) (fun _ s2 =>
          wpAny (model prog w) A (forIn ifs true fun c r => if r = true then do let ok ← isTrue c env (eval c env); pure (ForInStep.yield ok) else pure (ForInStep.yield r)) (fun ok s3 =>
            if ok = true then wpAny (model prog w) A (eval elt env) (fun x s4 =>
              wpAny (model prog w) A (call (.builtin "list.append") [acc, x]) (fun _ s5 => ∃ m, m < n ∧ I m s5) (fun _ _ => False) s4) (fun _ _ => False) s3
            else ∃ m, m < n ∧ I m s3) (fun _ _ => False) s2) (fun _ _ => False) s1') (fun _ _ => False) s1) (fun _ _ => False) s)
    (n : Nat) (h : I n s) :
    codeAny (model prog w) A (.compLoop (.ListComp elt [⟨target, iter, ifs, 0⟩] scope pos) 0 it acc env) R s := by
  refine codeAny_loop rfl I (fun n s hI => ?_) n h
  show wpAny _ A ((compTurn (.ListComp elt [⟨target, iter, ifs, 0⟩] scope pos) 0 it acc env).onRaise (fun x => do noteFrame x env; theTreesLotGoes x)) _ _ s
  refine wpAny_noted ?_
  rw [compTurn_list]
  refine wpAny_bind (wpAny_standAt (wpAny_bind (wpAny_mono (turn n s hI) (fun r s1 h1 => ?_) fun _ _ h' => h'.elim)))
  cases r with
  | none => exact wpAny_pure h1
  | some v =>
    refine wpAny_bind (wpAny_mono h1 (fun _ s1' h1' => ?_) fun _ _ h' => h'.elim)
    refine wpAny_bind (wpAny_mono h1' (fun _ s2 h2 => wpAny_bind (wpAny_mono h2 (fun ok s3 h3 => ?_) fun _ _ h' => h'.elim)) fun _ _ h' => h'.elim)
    cases ok with
    | false => exact wpAny_pure ⟨rfl, h3⟩
    | true =>
      exact wpAny_bind (wpAny_bind (wpAny_mono h3 (fun x s4 h4 => wpAny_bind (wpAny_mono h4 (fun _ s5 h5 => wpAny_pure (wpAny_pure ⟨rfl, h5⟩)) fun _ _ h' => h'.elim)) fun _ _ h' => h'.elim))
end

/-- the tests of a comprehension -/
def PTs (X : Cx) (ifs : List Expr) (t : TT) : Prop :=
  ∀ (pins : List (Addr × Obj)) (s : Shared) (σ : St) (H : Hp) (Q : Bool → Hp → Prop), Inv X pins σ H s → t σ H Q →
    wpAny (model X.prog X.w) X.A (forIn ifs true fun c r => if r = true then do let ok ← isTrue c X.env (eval c X.env); pure (ForInStep.yield ok) else pure (ForInStep.yield r)) (TP X pins σ Q) X.xe s
def tAll : TT := fun _ H Q => Q true H
theorem pts_nil {X : Cx} : PTs X [] tAll := fun _ _ _ H _ I h => wpAny_tests_nil ⟨H, I, h⟩
theorem pts_one {X : Cx} {c : Expr} {t : TT} (h : PT X c t) : PTs X [c] t := fun pins s σ H Q I q => wpAny_tests_one (h pins s σ H Q I q)

/-- [e for target in iter if c]: W between two turns; the list grows at D; N: what the turn is to reach -/
def CompW (J : It) (g : TG) (tc : TT) (te : TE) (Q : VK) (D : Addr) (σ0 : St) (H1 : Hp) : Prop :=
  ∃ W : Nat → Nat → St → Hp → Prop, (∃ m, W 0 m σ0 (upd H1 D (.lst []))) ∧ ∀ i m σ H, W i m σ H →
    (J.stop i H ∧ Q (.ref D) H) ∨ (J.go i H ∧ ∃ N : St → Hp → Prop, (∀ σ' H', N σ' H' → ∃ m', m' < m ∧ W (i + 1) m' σ' H') ∧ ∀ x H', J.yld i H x H' → g x σ H' fun σ2 H2 => tc σ2 H2 fun b H3 =>
      if b = true then te σ2 H3 fun y H4 => ∃ acc, H4 D = some (.lst acc) ∧ acc.length < sizeLine ∧ N σ2 (upd H4 D (.lst (acc ++ [y]))) else N σ2 H3)
def tComp (own : List Str) (caps : List Nat) (wi : TI) (g : TG) (tc : TT) (te : TE) : TE := fun σ H Q => wi σ H fun J H1 => ∀ D, H1 D = none → CompW J g tc te Q D (st0 own caps σ) H1

section
variable {X : Cx} {elt tg iter : Expr} {ifs : List Expr} {scope : Scope} {pos : Pos} {N own : List Str} {caps : List Nat} {wi : TI} {g : TG} {tc : TT} {te : TE}
/-- the block run: from the iterator to the list -/
theorem comp_run {use : Option (Value → Sem Unit)} {Qv : Value → Shared → Prop} {pins : List (Addr × Obj)} {σ : St} {H : Hp} {s : Shared} {Q : VK} (hc : X.calm = true) (S : CompScope N own caps X.N X.env.scope scope)
    (hg : ∀ C s H fp, PG (cxComp X scope C N s H fp) tg g) (hcs : ∀ C s H fp, PTs (cxComp X scope C N s H fp) ifs tc) (he : ∀ C s H fp, PE (cxComp X scope C N s H fp) elt te)
    (hi : PI X tg iter wi) (hs : ∀ x, foldedSetIterable iter X.env x = pure x)
    (I : Inv X pins σ H s) (h : tComp own caps wi g tc te σ H Q)
    (fin : ∀ (D C : Addr) (H' : Hp) (s' : Shared), (∃ m, s'.heap.Ns C m) → Inv X pins σ H' s' → (∀ h', Heap.SameBut C s'.heap h' → Inv X pins σ H' { s' with heap := h' }) → FpOk X pins H' C → Q (.ref D) H' →
      compPost (model X.prog X.w) X.A X.xe use Qv (.ref D) C (.ok .next) s') :
    wpAny (model X.prog X.w) X.A (comprehension (.ListComp elt [⟨tg, iter, ifs, 0⟩] scope pos) scope X.env (firstIterPos [⟨tg, iter, ifs, 0⟩] pos) (newList []) false (eval iter X.env) use) Qv X.xe s := by
  refine wpAny_comprehension_free (use := use) rfl hs (closure_eq (S.csome I.ok)) S.kind S.names (thn (hi pins s σ H _ I h) fun xv s1 h1 => thn h1 fun itv s2 h2 => ?_)
  obtain ⟨it, fp, tn, J, H2, e, I2, T, st2, f2, q2⟩ := h2
  subst e
  refine wpAny_newList ?_
  refine wpAny_newFunctionEnv S.nocell (by intro y hy; simp at hy) (fun h1 hns1 hsb1 => ?_) S.kind
  dsimp only at hns1 hsb1 ⊢
  have hD : H2 s2.heap.objs.size = none := I2.hok.fresh (Nat.le_refl _)
  have hsz : (s2.heap.push { cls := .type "list", data := .seq ([] : List Value).toArray }).objs.size = s2.heap.objs.size + 1 := Heap.size_push ..
  have old : ∀ b o, s2.heap.get? b = some o → h1.get? b = some o := fun b o e => by
    refine hsb1.extBut b o (Nat.ne_of_lt (by have := natlt (Heap.lt_size e); rw [hsz]; omega)) (Heap.get?_push_of_some _ (Heap.get?_push_of_some _ e))
  have hl : h1.get? s2.heap.objs.size = some { cls := .type "list", data := .seq #[] } :=
    hsb1.extBut _ _ (Nat.ne_of_lt (by rw [hsz]; omega)) (Heap.get?_push_of_some _ (Heap.get?_push_size _ rfl))
  have hfo : ∀ b ∈ fp, ∃ o, s2.heap.get? b = some o := fun b hb => let ⟨o, e, _⟩ := T.obj _ _ st2 b hb; ⟨o, e⟩
  have I4 := Inv.comp (C := (s2.heap.push { cls := .type "list", data := .seq ([] : List Value).toArray }).objs.size) (t := s2.toks + ([] : List (Str × Value)).length) I2 S f2 hfo rfl hsz old hns1 hl
  obtain ⟨W, ⟨m0, w0⟩, turn⟩ := q2 _ hD
  generalize hCe : (s2.heap.push { cls := .type "list", data := .seq ([] : List Value).toArray }).objs.size = C at *
  generalize hDe : s2.heap.objs.size = D at *
  have hDC : D ≠ C := by omega
  -- the loop
  have loop : ∀ s3 : Shared, s3 = { s2 with heap := h1, toks := s2.toks + ([] : List (Str × Value)).length } →
      codeAny (model X.prog X.w) X.A (.compLoop (.ListComp elt [⟨tg, iter, ifs, 0⟩] scope pos) 0 (.ref it) (.ref D) (cxComp X scope C N s2 H2 fp).env) (compPost (model X.prog X.w) X.A X.xe use Qv (.ref D) C) s3 := by
    rintro s3 rfl
    have frz : ∀ b ∈ fp, (upd H2 D (.lst [])) b = none := fun b hb => by
      obtain ⟨o, e⟩ := hfo b hb
      rw [upd_ne (Nat.ne_of_lt (by have := natlt (Heap.lt_size e); omega))]
      exact (f2 b hb).1
    have stat : ∀ {H' : Hp}, (∀ b ∈ fp, H' b = none) → ∀ b ∈ fp, FpOk (cxComp X scope C N s2 H2 fp) [] H' b := fun hn b hb => by
      obtain ⟨o, e⟩ := hfo b hb
      have hlt := natlt (Heap.lt_size e)
      refine ⟨hn b hb, ?_, fun z => ?_, .inl hb, fun x c e' => (f2 b hb).2.2.2.2.1 x c (S.csub I2.ok e'), fun p hp => (by cases hp)⟩
      · exact Nat.ne_of_lt (show @LT.lt Nat _ b C by omega)
      · rcases List.mem_cons.mp (I2.stkSub b z) with q | q
        · exact (f2 b hb).2.1 q
        · exact (f2 b hb).2.2.1 q
    refine compLoop_any (fun n s' => ∃ i σ' H', Inv (cxComp X scope C N s2 H2 fp) [] σ' H' s' ∧ tn i s'.heap ∧ (∀ b ∈ fp, H' b = none) ∧ W i n σ' H') ?_ m0
      ⟨0, _, _, I4, T.keep _ _ _ st2 fun b _ o e => old b o e, frz, w0⟩
    rintro n s3 ⟨i, σ3, H3, I3, st3, fr3, w3⟩
    rcases turn i n σ3 H3 w3 with ⟨stop, qn⟩ | ⟨go, Nx, hNx, step⟩
    · refine thn (T.done (cxComp X scope C N s2 H2 fp) rfl rfl rfl hc i [] s3 σ3 H3 _ I3 (stat fr3) st3 stop) fun r s4 ⟨hr, J4⟩ => ?_
      subst hr
      obtain ⟨m4, hn4, _⟩ := J4.loc
      exact fin D C H3 s4 ⟨m4, hn4⟩ (I2.uncomp f2 (by omega) J4 (Heap.SameBut.refl _ _)) (fun h' hs' => I2.uncomp f2 (by omega) J4 hs') (I2.fpOk (show s2.heap.objs.size ≤ C by omega) J4.free) qn
    · refine thn (T.item (cxComp X scope C N s2 H2 fp) rfl rfl rfl hc i [] s3 σ3 H3 _ I3 (stat fr3) st3 go) fun r s4 ⟨u, hr, h4⟩ => ?_
      subst hr
      refine thn h4 fun _ s5 ⟨x, H5, I5, r5, y5, st5, fr5⟩ => ?_
      have I5' := I5.pinned (stat fr5) (T.obj _ _ st5)
      refine thn (hg C s2 H2 fp _ s5 σ3 H5 x u _ I5' r5 (step x H5 y5)) fun _ s6 ⟨σ6, H6, I6, q6⟩ => ?_
      refine thn (hcs C s2 H2 fp _ s6 σ6 H6 _ I6 q6) fun ok s7 ⟨H7, I7, q7⟩ => ?_
      have again : ∀ {σ8 : St} {H8 : Hp} {s8 : Shared}, Inv (cxComp X scope C N s2 H2 fp) ([] ++ pinsAt fp s5.heap) σ8 H8 s8 → Nx σ8 H8 → ∃ m, m < n ∧ ∃ i σ' H', Inv (cxComp X scope C N s2 H2 fp) [] σ' H' s8 ∧ tn i s8.heap ∧ (∀ b ∈ fp, H' b = none) ∧ W i m σ' H' := fun {σ8 H8 s8} I8 n8 => by
        obtain ⟨m', hm, w8⟩ := hNx _ _ n8
        refine ⟨m', hm, i + 1, σ8, H8, I8.unpinned, T.keep _ _ _ st5 fun b hb o e => (I8.pin (b, o) (List.mem_append_right _ (List.mem_append_right _ (mem_pinsAt hb e)))).1, fun b hb => ?_, w8⟩
        obtain ⟨o, e, d⟩ := T.obj _ _ st5 b hb
        exact (I8.pin (b, o) (List.mem_append_right _ (List.mem_append_right _ (mem_pinsAt hb e)))).2.1
      cases ok with
      | false =>
        rw [if_neg (by decide)] at q7
        exact again I7 q7
      | true =>
        rw [if_pos rfl] at q7
        refine thn (he C s2 H2 fp _ s7 σ6 H7 _ I7 q7) fun y s8 ⟨yv, H8, I8, r8, acc, ha, hlen, q8⟩ => ?_
        exact thn (mt_append _ s8 σ6 H8 (.ref D) [yv] (.ref D) [y] (fun v H9 => Nx σ6 H9) I8 rfl (.cons r8 .nil) ⟨D, acc, yv, rfl, rfl, ha, hlen, q8⟩) fun _ s9 ⟨_, H9, I9, _, q9⟩ => again I9 q9
  exact codeAny_compStart_list (loop _ rfl) (T.self _ 0 _ _ _ (T.keep _ _ _ st2 fun b _ o e => old b o e) (loop _ rfl))

theorem pe_comp (hc : X.calm = true) (S : CompScope N own caps X.N X.env.scope scope) (hi : PI X tg iter wi)
    (hg : ∀ C s H fp, PG (cxComp X scope C N s H fp) tg g) (hcs : ∀ C s H fp, PTs (cxComp X scope C N s H fp) ifs tc) (he : ∀ C s H fp, PE (cxComp X scope C N s H fp) elt te)
    (hs : ∀ x, foldedSetIterable iter X.env x = pure x := by intro _; rfl) : PE X (.ListComp elt [⟨tg, iter, ifs, 0⟩] scope pos) (tComp own caps wi g tc te) := by
  intro pins s σ H Q I h
  rw [eval_ListComp]
  refine comp_run (use := none) hc S hg hcs he hi hs I h ?_
  intro D C H' s' hn I' hk _ q
  obtain ⟨m, hn⟩ := hn
  exact ⟨m, hn, fun h' hs' => ⟨.ref D, H', hk h' hs', rfl, q⟩⟩
/-- x = [e for ..] on one row: the name is stored ahead of the block's names being let go -/
theorem ps_setC {i : Nat} {x : Str} {px sp : Pos} (hc : X.calm = true) (hN : X.N.Nodup) (hx : X.N[i]? = some x) (hl : Loc X.env.scope x) (S : CompScope N own caps X.N X.env.scope scope) (hi : PI X tg iter wi)
    (hg : ∀ C s H fp, PG (cxComp X scope C N s H fp) tg g) (hcs : ∀ C s H fp, PTs (cxComp X scope C N s H fp) ifs tc) (he : ∀ C s H fp, PE (cxComp X scope C N s H fp) elt te)
    (hsw : swapsWith (.ListComp elt [⟨tg, iter, ifs, 0⟩] scope pos) (some (.Name x px)) sp.line X.env = pure true := by rfl)
    (hs : ∀ x, foldedSetIterable iter X.env x = pure x := by intro _; rfl) (hf : X.fn x = true ∨ X.env.scope.names.lookup x = some .local := by first | exact .inl rfl | exact .inr rfl | assumption) :
    PS X (.Assign [.Name x px] (.ListComp elt [⟨tg, iter, ifs, 0⟩] scope pos) sp) (tAsg (tComp own caps wi g tc te) (gName i)) := by
  intro pins s σ H D I h
  rw [exec_Assign_Name_used _ _ _ _ hsw]
  refine wpAny_bind (wpAny_standAt (wpAny_bind ?_))
  show wpAny _ X.A (do let _ ← comprehension (.ListComp elt [⟨tg, iter, ifs, 0⟩] scope pos) scope X.env (firstIterPos [⟨tg, iter, ifs, 0⟩] pos) (newList []) false (eval iter X.env) (some (assign (.Name x px) X.env))) _ _ s
  refine wpAny_bind (wpAny_mono (comp_run (use := some (assign (.Name x px) X.env)) (Qv := fun _ s' => SP X pins D .next s') hc S hg hcs he hi hs I h ?_) (fun _ s' hq => wpAny_pure (wpAny_pure hq)) fun _ _ e => e)
  intro E C H' s' hn I' hk fC q
  obtain ⟨m, hn⟩ := hn
  obtain ⟨f0, f1, f2, f3, f4, f5⟩ := fC
  show wpAny _ X.A (assign (.Name x px) X.env (.ref E)) _ _ _
  refine wpAny_assign_Name (store_ok2 I' hN hx hl (v := .ref E) rfl (fun s2 I2 k => ?_) hf)
  refine ⟨m, ?_, fun h' hs' => ?_⟩
  · obtain ⟨o, es, ep, ho, r⟩ := hn
    obtain ⟨a, ks, ka⟩ := k
    have hCa : C ≠ a := fun z => by
      rcases ka with q' | q'
      · exact f1 (z.trans q')
      · exact f4 x a q' z.symm
    exact ⟨o, es, ep, (ks.2 C hCa).trans ho, r⟩
  · exact ⟨_, H', I2.turned (t' := s2.toks) (fun b o hb e => (hs'.2 b hb).trans e) f0 f1 f3 f4 f5, q⟩
end
/-- the names of a block, checked -/
def compOk (N own : List Str) (caps : List Nat) (XN : List Str) (outer scope : Scope) : Bool :=
  decide (scope.kind = .function) && scope.names.all (fun y => decide (y.2 ≠ .cell)) && scope.names.all (fun y => decide (y.2 ≠ .local) || decide (scope.names.lookup y.1 = some .local)) &&
  scope.names.all (fun y => decide (y.2 ≠ .free) || decide (outer.names.lookup y.1 = some .cell) || decide (outer.names.lookup y.1 = some .free)) && decide N.Nodup && decide (N.length = own.length + caps.length) &&
  (List.range caps.length).all (fun j => match N[own.length + j]? with | some x => decide (XN[caps.getD j 0]? = some x) && decide ((x, NameKind.free) ∈ scope.names) && decide (scope.names.lookup x = some .free) | none => false)
theorem CompScope.of {N own : List Str} {caps : List Nat} {XN : List Str} {outer scope : Scope} (h : compOk N own caps XN outer scope = true) : CompScope N own caps XN outer scope := by
  unfold compOk at h
  simp only [Bool.and_eq_true, decide_eq_true_eq, List.all_eq_true, Bool.or_eq_true] at h
  obtain ⟨⟨⟨⟨⟨⟨h1, h2⟩, h3⟩, h4⟩, h5⟩, h6⟩, h7⟩ := h
  refine ⟨h1, h2, fun y hy e => ?_, fun y hy e => ?_, h5, h6, fun j hj => ?_⟩
  · rcases h3 y hy with z | z
    · exact absurd e z
    · exact z
  · rcases h4 y hy with (z | z) | z
    · exact absurd e z
    · exact .inl z
    · exact .inr z
  · have q := h7 j (List.mem_range.mpr hj)
    cases e : N[own.length + j]? with
    | none => rw [e] at q; cases q
    | some x =>
      rw [e] at q
      simp only [Bool.and_eq_true, decide_eq_true_eq] at q
      exact ⟨q.1.1.symm, x, rfl, q.1.2, q.2⟩
end L2
set_option Elab.async false
set_option linter.all false
set_option maxRecDepth 100000
set_option maxHeartbeats 4000000
namespace L2
open PySem PySem.Spec PyProof.Rows

/-! ### plain data at a heap -/
mutual
def Dat (H : Hp) : V → PyData → Prop
  | v, .none => v = .non
  | v, .bool b => v = .bl b
  | v, .int i => v = .int i
  | v, .str x => v = .str x
  | v, .list ds => ∃ a vs, v = .ref a ∧ H a = some (.lst vs) ∧ Dats H vs ds
  | v, .tuple ds => ∃ a vs, v = .ref a ∧ H a = some (.tup vs) ∧ Dats H vs ds
  | _, .dict _ => False
def Dats (H : Hp) : List V → List PyData → Prop
  | [], [] => True
  | v :: vs, d :: ds => Dat H v d ∧ Dats H vs ds
  | [], _ :: _ => False
  | _ :: _, [] => False
end
section
variable {H H' : Hp}
theorem Dats.length : ∀ {vs : List V} {ds : List PyData}, Dats H vs ds → vs.length = ds.length
  | [], [], _ => rfl
  | _ :: _, _ :: _, h => by simp only [Dats] at h; simp [Dats.length h.2]
  | [], _ :: _, h => by simp only [Dats] at h
  | _ :: _, [], h => by simp only [Dats] at h
theorem Dats.get : ∀ {vs : List V} {ds : List PyData} {i : Nat} {v : V}, Dats H vs ds → vs[i]? = some v → ∃ d, ds[i]? = some d ∧ Dat H v d
  | _ :: _, _ :: _, 0, _, h, e => by simp only [Dats] at h; simp at e; subst e; exact ⟨_, rfl, h.1⟩
  | _ :: _, _ :: _, i + 1, _, h, e => by simp only [Dats] at h; simp at e; obtain ⟨d, q, r⟩ := Dats.get h.2 e; exact ⟨d, by simpa using q, r⟩
  | [], [], _, _, _, e => by simp at e
  | [], _ :: _, _, _, h, _ => by simp only [Dats] at h
  | _ :: _, [], _, _, h, _ => by simp only [Dats] at h
theorem Dats.getD : ∀ {vs : List V} {ds : List PyData} {i : Nat} {d : PyData}, Dats H vs ds → ds[i]? = some d → ∃ v, vs[i]? = some v ∧ Dat H v d
  | _ :: _, _ :: _, 0, _, h, e => by simp only [Dats] at h; simp at e; subst e; exact ⟨_, rfl, h.1⟩
  | _ :: _, _ :: _, i + 1, _, h, e => by simp only [Dats] at h; simp at e; obtain ⟨d, q, r⟩ := Dats.getD h.2 e; exact ⟨d, by simpa using q, r⟩
  | [], [], _, _, _, e => by simp at e
  | [], _ :: _, _, _, h, _ => by simp only [Dats] at h
  | _ :: _, [], _, _, h, _ => by simp only [Dats] at h
theorem Dats.append : ∀ {vs ws : List V} {ds es : List PyData}, Dats H vs ds → Dats H ws es → Dats H (vs ++ ws) (ds ++ es)
  | [], _, [], _, _, g => g
  | _ :: _, _, _ :: _, _, h, g => by simp only [Dats, List.cons_append] at h ⊢; exact ⟨h.1, Dats.append h.2 g⟩
  | [], _, _ :: _, _, h, _ => by simp only [Dats] at h
  | _ :: _, _, [], _, h, _ => by simp only [Dats] at h
theorem Dats.ints (ns : List Int) : Dats H (ns.map V.int) (ns.map PyData.int) := by
  induction ns with
  | nil => simp only [List.map_nil, Dats]
  | cons n r ih => simp only [List.map_cons, Dats, Dat]; exact ⟨trivial, ih⟩
mutual
theorem Dat.mono (hl : ∀ a xs, H a = some (HO.lst xs) → H' a = some (HO.lst xs)) (ht : ∀ a xs, H a = some (HO.tup xs) → H' a = some (HO.tup xs)) : ∀ (d : PyData) {v : V}, Dat H v d → Dat H' v d
  | .none, _, h => by simp only [Dat] at h ⊢; exact h
  | .bool _, _, h => by simp only [Dat] at h ⊢; exact h
  | .int _, _, h => by simp only [Dat] at h ⊢; exact h
  | .str _, _, h => by simp only [Dat] at h ⊢; exact h
  | .list ds, _, h => by simp only [Dat] at h ⊢; obtain ⟨a, vs, e, q, r⟩ := h; exact ⟨a, vs, e, hl _ _ q, Dats.mono hl ht ds r⟩
  | .tuple ds, _, h => by simp only [Dat] at h ⊢; obtain ⟨a, vs, e, q, r⟩ := h; exact ⟨a, vs, e, ht _ _ q, Dats.mono hl ht ds r⟩
  | .dict _, _, h => by simp only [Dat] at h
theorem Dats.mono (hl : ∀ a xs, H a = some (HO.lst xs) → H' a = some (HO.lst xs)) (ht : ∀ a xs, H a = some (HO.tup xs) → H' a = some (HO.tup xs)) : ∀ (ds : List PyData) {vs : List V}, Dats H vs ds → Dats H' vs ds
  | [], [], _ => by simp only [Dats]
  | d :: ds, v :: vs, h => by simp only [Dats] at h ⊢; exact ⟨Dat.mono hl ht d h.1, Dats.mono hl ht ds h.2⟩
  | _ :: _, [], h => by simp only [Dats] at h
  | [], _ :: _, h => by simp only [Dats] at h
end
mutual
/-- no list within -/
def imm : PyData → Bool
  | .tuple ds => imms ds
  | .list _ | .dict _ => false
  | .none | .bool _ | .int _ | .str _ => true
def imms : List PyData → Bool
  | [] => true
  | d :: ds => imm d && imms ds
end
mutual
theorem Dat.keep (ht : ∀ a xs, H a = some (HO.tup xs) → H' a = some (HO.tup xs)) : ∀ (d : PyData) {v : V}, imm d = true → Dat H v d → Dat H' v d
  | .none, _, _, h => by simp only [Dat] at h ⊢; exact h
  | .bool _, _, _, h => by simp only [Dat] at h ⊢; exact h
  | .int _, _, _, h => by simp only [Dat] at h ⊢; exact h
  | .str _, _, _, h => by simp only [Dat] at h ⊢; exact h
  | .list ds, _, i, h => by simp only [imm] at i; cases i
  | .tuple ds, _, i, h => by simp only [Dat] at h ⊢; simp only [imm] at i; obtain ⟨a, vs, e, q, r⟩ := h; exact ⟨a, vs, e, ht _ _ q, Dats.keep ht ds i r⟩
  | .dict _, _, _, h => by simp only [Dat] at h
theorem Dats.keep (ht : ∀ a xs, H a = some (HO.tup xs) → H' a = some (HO.tup xs)) : ∀ (ds : List PyData) {vs : List V}, imms ds = true → Dats H vs ds → Dats H' vs ds
  | [], [], _, _ => by simp only [Dats]
  | d :: ds, v :: vs, i, h => by simp only [Dats] at h ⊢; simp only [imms, Bool.and_eq_true] at i; exact ⟨Dat.keep ht d i.1 h.1, Dats.keep ht ds i.2 h.2⟩
  | _ :: _, [], _, h => by simp only [Dats] at h
  | [], _ :: _, _, h => by simp only [Dats] at h
end
theorem imms_map {α : Type} (f : α → PyData) (h : ∀ x, imm (f x) = true) : ∀ l : List α, imms (l.map f) = true
  | [] => rfl
  | a :: l => by simp only [List.map_cons, imms, h a, imms_map f h l, Bool.and_self]
end

section
variable {X : Cx} {pins : List (Addr × Obj)} {σ : St} {H : Hp} {s : Shared}
mutual
theorem Inv.reads (I : Inv X pins σ H s) : ∀ (d : PyData) {v : V} {u : Value}, Dat H v d → RelV v u → ∃ as, Reads s.heap u d as
  | .none, v, u, h, r => by
    simp only [Dat] at h; subst h; cases (show u = Value.none from r); exact ⟨_, .none⟩
  | .bool b, v, u, h, r => by
    simp only [Dat] at h; subst h; cases (show u = Value.bool b from r); exact ⟨_, .bool b⟩
  | .int i, v, u, h, r => by
    simp only [Dat] at h; subst h; obtain ⟨t, q⟩ := (show ∃ t, u = Value.int i t from r); cases q; exact ⟨_, .int i t⟩
  | .str x, v, u, h, r => by
    simp only [Dat] at h; subst h; obtain ⟨t, q⟩ := (show ∃ t, u = Value.str x t from r); cases q; exact ⟨_, .str x t⟩
  | .list ds, v, u, h, r => by
    simp only [Dat] at h
    obtain ⟨a, vs, rfl, q, g⟩ := h
    cases (show u = Value.ref a from r)
    obtain ⟨its, rv, p, hz⟩ := I.list (SqL.of q)
    obtain ⟨o, ho, hc, n, hd⟩ := p.isList
    obtain ⟨as, ra⟩ := Inv.readsAll I ds g rv
    exact ⟨_, .list ho hc hd (by simpa using ra)⟩
  | .tuple ds, v, u, h, r => by
    simp only [Dat] at h
    obtain ⟨a, vs, rfl, q, g⟩ := h
    cases (show u = Value.ref a from r)
    obtain ⟨its, rv, p, hz⟩ := I.tuple (SqT.of q)
    obtain ⟨o, ho, hc, n, hd⟩ := p
    obtain ⟨as, ra⟩ := Inv.readsAll I ds g rv
    exact ⟨_, .tuple ho hc hd (by simpa using ra)⟩
  | .dict _, _, _, h, _ => by simp only [Dat] at h
theorem Inv.readsAll (I : Inv X pins σ H s) : ∀ (ds : List PyData) {vs : List V} {us : List Value}, Dats H vs ds → Vals vs us → ∃ as, ReadsAll s.heap us ds as
  | [], [], _, _, .nil => ⟨_, .nil⟩
  | d :: ds, v :: vs, _, h, .cons r rs => by
    simp only [Dats] at h
    obtain ⟨as, ra⟩ := Inv.reads I d h.1 r
    obtain ⟨bs, rb⟩ := Inv.readsAll I ds h.2 rs
    exact ⟨_, .cons ra rb⟩
  | _ :: _, [], _, h, _ => by simp only [Dats] at h
  | [], _ :: _, _, h, _ => by simp only [Dats] at h
end
/-- == and != of data -/
def rEqD (neg : Bool) : R2 := fun x y H Q => ∃ d e, Dat H x d ∧ Dat H y e ∧ SeqAt.shaped d = true ∧ SeqAt.shaped e = true ∧ Q (.bl (if neg then !PyData.eqv d e else PyData.eqv d e)) H
theorem op_neD (hu : X.A.units + 64 < cLine) : OpR X (compareOp .NotEq) (rEqD true) := by
  intro pins s σ H x y v u Q I rx ry h
  obtain ⟨d, e, h1, h2, s1, s2, q⟩ := h
  obtain ⟨as, ra⟩ := I.reads d h1 rx
  obtain ⟨bs, rb⟩ := I.reads e h2 ry
  exact SeqAt.compareNe_shaped ra rb s1 s2 hu ⟨.bl _, H, I, rfl, q⟩

/-! ### isinstance -/
/-- isinstance(x, c): c's value is known -/
theorem call_isi {c : Value} {cv : V} (rc : RelV cv c) : CallR X (.builtin "isinstance") (fun xs H Q => ∃ x t b, xs = [x, cv] ∧ TyOf X.K H x t ∧ PySem.W.kitOne X.K t c = some b ∧ Q (.bl b) H) := by
  intro pins s σ H xs us Q I r h
  obtain ⟨x, t, b, rfl, ty, e, q⟩ := h
  obtain ⟨u, w', rfl, r1, r2⟩ := vals2 r
  have : w' = c := by
    cases cv with
    | non => exact (show w' = Value.none from r2).trans (show c = Value.none from rc).symm
    | bl b => exact (show w' = Value.bool b from r2).trans (show c = Value.bool b from rc).symm
    | ref a => exact (show w' = Value.ref a from r2).trans (show c = Value.ref a from rc).symm
    | ty n => exact (show w' = Value.type n from r2).trans (show c = Value.type n from rc).symm
    | int i => obtain ⟨t1, rfl⟩ := (show ∃ t, c = Value.int i t from rc); unfold PySem.W.kitOne at e; exact absurd e (by cases ty <;> simp [PySem.W.kitCls])
    | str i => obtain ⟨t1, rfl⟩ := (show ∃ t, c = Value.str i t from rc); unfold PySem.W.kitOne at e; exact absurd e (by cases ty <;> simp [PySem.W.kitCls])
    | byt i => obtain ⟨t1, rfl⟩ := (show ∃ t, c = Value.bytes i t from rc); unfold PySem.W.kitOne at e; exact absurd e (by cases ty <;> simp [PySem.W.kitCls])
    | flt i => obtain ⟨t1, rfl⟩ := (show ∃ t, c = Value.float i t from rc); unfold PySem.W.kitOne at e; exact absurd e (by cases ty <;> simp [PySem.W.kitCls])
  subst this
  exact isinst_ok I r1 ty e fun tk => ⟨.bl b, H, I.tok _, rfl, q⟩
end

/-! ### all, any over a list of bools -/
section
variable {prog : Program} {w : World} {A : Around}
theorem walks_list (hh : A.handled = none) (it a : Addr) (hne : it ≠ a) (its : List Value) : Walks prog w A it [it, a] [it] its.length (fun i v => its[i]? = some v) (fun i h => h.IsListIter it a i ∧ h.IsList a its.toArray) where
  sub := by simp
  frame := fun i h h' ⟨s1, o, ho, hc⟩ k => ⟨s1.at fun o e => k it (by simp) o e, o, k a (by simp) o ho, hc⟩
  item := fun i s Q E hi ⟨s1, s2⟩ hQ => wpAny_pyNext_list_item s1 s2 (x := its[i]) (by simp [hi]) fun h' st' sb =>
    hQ _ h' s.toks (by simp [hi]) ⟨st', s2.extBut sb.extBut hne.symm⟩ fun b o hb e => (sb.2 b (by simpa using hb)).trans e
  done := fun s Q E ⟨s1, s2⟩ hQ => wpAny_pyNext_list_end hh s1 s2 (by simp) fun h' eb => hQ h' s.toks fun b o hb e => eb b o (by simpa using hb) e
  self := fun i s Q E ⟨s1, _⟩ hQ => wpAny_pyIter_listiter s1 hQ
end
section
variable {X : Cx}
theorem range_all_get (bs : List Bool) : (List.range bs.length).all (fun i => (bs[i]?).getD false) = bs.all id := by
  rw [Bool.eq_iff_iff, List.all_eq_true, List.all_eq_true]
  constructor
  · intro h b hb
    obtain ⟨i, hi, rfl⟩ := List.getElem_of_mem hb
    have := h i (by simpa using hi)
    simpa [hi] using this
  · intro h i hi
    have hi' : i < bs.length := by simpa using hi
    simpa [hi'] using h bs[i] (List.getElem_mem hi')
theorem vals_bools {bs : List Bool} : ∀ {us : List Value}, Vals (bs.map V.bl) us → us = bs.map Value.bool := by
  induction bs with
  | nil => intro us r; cases r; rfl
  | cons b bs ih =>
    intro us r
    cases r with
    | cons r rs => cases (show _ = Value.bool b from r); rw [ih rs]; rfl
theorem call_all_bools (hc : X.calm = true) : CallR X (.builtin "all") (fun xs H Q => ∃ (p : Addr) (bs : List Bool), xs = [.ref p] ∧ SqL X.K H p (bs.map V.bl) ∧ Q (.bl (bs.all id)) H) := by
  intro pins s σ H xs us Q I r h
  obtain ⟨p, bs, rfl, hq, q⟩ := h
  obtain ⟨u, rfl, rx⟩ := vals1 r
  cases rx
  obtain ⟨its, rv, pl, hz⟩ := I.list hq
  have e := vals_bools rv
  have hlen : its.length = bs.length := by rw [e, List.length_map]
  refine call_all_walk (wpAny_pyIter_list pl.isList ⟨s.heap.objs.size, [s.heap.objs.size, p], [s.heap.objs.size], its.length, _, _, fun i => (bs[i]?).getD false, rfl,
    walks_list (show X.A.in1.handled = none from I.ok.hd hc) s.heap.objs.size p ?_ its, ⟨⟨_, Heap.get?_push_size _ rfl, rfl, rfl⟩, ?_⟩, ?_, ?_⟩)
  · intro z
    obtain ⟨o, ho, _⟩ := pl.isList
    have := Heap.lt_size ho
    rw [← z] at this
    exact Nat.lt_irrefl _ this
  · obtain ⟨o, ho, hcl⟩ := pl.isList
    exact ⟨o, Heap.get?_push_of_some _ ho, hcl⟩
  · intro i v s1 Q1 E1 hP hQ
    rw [e, List.getElem?_map] at hP
    cases r : bs[i]? with
    | none => rw [r] at hP; cases hP
    | some b =>
      rw [r] at hP
      cases hP
      simp only [r, Option.getD_some] at hQ
      exact wpAny_truthy_bool hQ
  · intro h' tk k
    rw [hlen, range_all_get]
    have f := I.fpOk (H' := H) (b := s.heap.objs.size) (Nat.le_refl _) (I.hok.fresh (Nat.le_refl _))
    have I2 : Inv X pins σ H { s with heap := h', toks := tk } := I.turned (h' := h') (t' := tk) (it := s.heap.objs.size) (fun b o hb e => k b o (by simpa using hb) (Heap.get?_push_of_some _ e)) f.1 f.2.1 f.2.2.2.1 f.2.2.2.2.1 f.2.2.2.2.2
    exact ⟨.bl _, H, I2, rfl, q⟩
end
end L2
set_option Elab.async false
set_option linter.all false
set_option maxRecDepth 100000
set_option maxHeartbeats 4000000
namespace L2
open PySem PySem.Spec PyProof.Rows

/-! ### a def of the text, called by its name; no exception leaves it -/
def FnAt (P : Program) (w : World) (K : PySem.W.Frag) (mg : Str → Option Value) (base : Heap) (k : Nat) (x : Str) (ps : List Str) (sp : Sp) : Prop :=
  ∃ f fd, FnOk P w K mg base CX0 k f fd ps sp ∧ mg x = some (.ref f) ∧ PySem.W.keepIn K (.ref f) = true ∧ Binds K fd ps []
section
variable {X : Cx} {k j : Nat} {x : Str} {ps : List Str} {sp : Sp} {e : Expr} {es : List Expr} {t : TA} {p pos : Pos}
theorem pe_fn (F : FnAt X.prog X.w X.K X.mg X.base k x ps sp) (hr : Room k X.A) (hg : Gl X x) (ha : PA X (e :: es) t) (hd : (x == ("__debug__" : Str)) = false := by decide)
    (he : starEach (e :: es) X.env = (false, eval e X.env) :: starEach es X.env := by rfl) (hpl : (backTo pos (starEach es X.env)).any (·.1) = false := by rfl) :
    PE X (.Call (.Name x p) (e :: es) [] pos) (tCall sp [] E0 t) := by
  obtain ⟨f, fd, G, hm, hk, hb⟩ := F
  exact pe_call G hr hg hm hk hb .nil pass0 ha (hdb := hd) (he := he) (hpl := hpl)
end

/-! ### what the built-in names are -/
theorem bt_all : bootBuiltins "all" = some (.builtin "all") := by kernel_rfl
theorem bt_len : bootBuiltins "len" = some (.builtin "len") := by kernel_rfl
theorem bt_min : bootBuiltins "min" = some (.builtin "min") := by kernel_rfl
theorem bt_max : bootBuiltins "max" = some (.builtin "max") := by kernel_rfl
theorem bt_isinstance : bootBuiltins "isinstance" = some (.builtin "isinstance") := by kernel_rfl
theorem bt_int : bootBuiltins "int" = some (.type "int") := by kernel_rfl
theorem bt_bool : bootBuiltins "bool" = some (.type "bool") := by kernel_rfl
theorem bt_list : bootBuiltins "list" = some (.type "list") := by kernel_rfl
theorem bt_tuple : bootBuiltins "tuple" = some (.type "tuple") := by kernel_rfl
theorem bt_str : bootBuiltins "str" = some (.type "str") := by kernel_rfl
/-! ### a product whose size fits -/
section
variable {X : Cx}
theorem op_mulB : OpR X (binaryOp .Mult) (rI IntMulOk fun i j => .int (i * j)) := opI fun _ _ _ _ _ _ _ hc q => mul_int q hc
end

/-! ### heaps: what stays -/
/-- all stays but what stands at r -/
def Kp (r : Addr) (H H' : Hp) : Prop := ∀ b o, H b = some o → b ≠ r → H' b = some o
theorem Kp.of_same {r : Addr} {H H' : Hp} (h : Same H H') : Kp r H H' := fun b o e _ => h b o e
theorem Kp.trans {r : Addr} {H H1 H2 : Hp} (a : Kp r H H1) (b : Kp r H1 H2) : Kp r H H2 := fun c o h n => b c o (a c o h n) n
theorem Kp.refl (r : Addr) (H : Hp) : Kp r H H := fun _ _ h _ => h
theorem Kp.set {r : Addr} {H : Hp} {o : HO} : Kp r H (upd H r o) := fun b u e n => by rw [upd_ne n]; exact e
theorem same_new {H : Hp} {p : Addr} {o : HO} (h : H p = none) : Same H (upd H p o) := fun b u e => by rw [upd_ne (ne_of_none e h)]; exact e
theorem Same.tups {H H' : Hp} (e : Same H H') : ∀ a xs, H a = some (HO.tup xs) → H' a = some (HO.tup xs) := fun a xs h => e _ _ h
theorem Same.sqL {K : PySem.W.Frag} {H H' : Hp} (e : Same H H') : ∀ a xs, SqL K H a xs → SqL K H' a xs := fun a xs h => e.seq h
/-- a list at r: tuples are elsewhere -/
theorem Kp.tups {H H' : Hp} {r : Addr} {ys : List V} (e : Kp r H H') (hr : H r = some (.lst ys)) : ∀ a xs, H a = some (HO.tup xs) → H' a = some (HO.tup xs) := fun a xs h => e _ _ h (ne_of h hr (by intro z; cases z))
end L2

/-! ### the rules over K itself (a block's context has the same K) -/
namespace L2
open PySem PySem.Spec PyProof.Rows
section
variable {X : Cx} {K : PySem.W.Frag}
theorem ix_listK (h : X.K = K) : IxR X (rIxL K) := by subst h; exact ix_list
theorem ix_tupK (h : X.K = K) : IxR X (rIxT K) := by subst h; exact ix_tup
theorem sl_listK (h : X.K = K) : SlR X (rSlL K) := by subst h; exact sl_list
theorem op_in_seqK (h : X.K = K) : OpR X (compareOp .In) (rIn K false) := by subst h; exact op_in_seq
def rLen (K : PySem.W.Frag) : List V → Hp → VK → Prop := fun xs H Q => ∃ (p : Addr) (ys : List V), xs = [.ref p] ∧ (SqL K H p ys ∨ SqT K H p ys) ∧ Q (.int ys.length) H
theorem call_len_seqK (h : X.K = K) : CallR X (.builtin "len") (rLen K) := by subst h; exact call_len_seq
def rListOf (K : PySem.W.Frag) : List V → Hp → VK → Prop := fun xs H Q => ∃ (p : Addr) (ys : List V), xs = [.ref p] ∧ (SqL K H p ys ∨ SqT K H p ys) ∧ ∀ l, H l = none → Q (.ref l) (upd H l (.lst ys))
theorem call_list_ofK (h : X.K = K) : CallR X (.type "list") (rListOf K) := by subst h; exact call_list_of
def rAllB (K : PySem.W.Frag) : List V → Hp → VK → Prop := fun xs H Q => ∃ (p : Addr) (bs : List Bool), xs = [.ref p] ∧ SqL K H p (bs.map V.bl) ∧ Q (.bl (bs.all id)) H
theorem call_all_boolsK (h : X.K = K) (hc : X.calm = true) : CallR X (.builtin "all") (rAllB K) := by subst h; exact call_all_bools hc
theorem op_neDK (h : X.K = K) (hu : X.A.units + 64 < cLine) : OpR X (compareOp .NotEq) (rEqD true) := by subst h; exact op_neD hu
theorem pi_listK {tg l : Expr} {tl : TE} (h : X.K = K) (hl : PE X l tl) : PI X tg l (iList K tl) := by subst h; exact pi_list hl
def rIsi (K : PySem.W.Frag) (c : Value) (cv : V) : List V → Hp → VK → Prop := fun xs H Q => ∃ x t b, xs = [x, cv] ∧ TyOf K H x t ∧ PySem.W.kitOne K t c = some b ∧ Q (.bl b) H
theorem call_isiK {c : Value} {cv : V} (h : X.K = K) (rc : RelV cv c) : CallR X (.builtin "isinstance") (rIsi K c cv) := by subst h; exact call_isi rc
theorem pe_appendK {o e : Expr} {to : TE} {t : TA} {apos cpos : Pos} (h : X.K = K) (ho : PE X o to) (ha : PA X [e] t)
    (hbase : attributeBase o "append" X.env (eval o X.env) = eval o X.env := by rfl)
    (hfew : ((backTo cpos (starEach [e] X.env)).all (fun x => !x.1) && (backToKw cpos (keywordEach [] X.env)).all (fun x => x.1.isSome)
      && decide (([e] : List Expr).length + ([] : List Keyword).length + (if ([] : List Keyword).isEmpty then 0 else 1) < 30)) = true := by rfl)
    (hline : (apos.endLine == cpos.line) = true := by rfl) (hs : starEach [e] X.env = (false, eval e X.env) :: starEach [] X.env := by rfl) (hplain : (backTo cpos (starEach [] X.env)).any (·.1) = false := by rfl) :
    PE X (.Call (.Attribute o "append" apos) [e] [] cpos) (tBM K "list" rAppend to t) := by
  subst h
  exact pe_bm PySem.F.plainAttrs_list PySem.F.slot_list_append PySem.F.type_list_append mt_append ho ha hbase hfew hline hs hplain
end
end L2
namespace L2
open PySem
/-! ### comprehensions by their invariant -/
section
variable {K : PySem.W.Frag} {a D : Addr} {xs : List V} {g : TG} {tc : TT} {te : TE} {Q : VK} {σ0 : St} {H1 : Hp}
/-- over a list that the block leaves as it is -/
theorem comp_list (Pv : Nat → St → Hp → Prop) (h0 : Pv 0 σ0 (upd H1 D (.lst []))) (hl : ∀ i σ H, i ≤ xs.length → Pv i σ H → SqL K H a xs)
    (hs : ∀ i x σ H, xs[i]? = some x → Pv i σ H → g x σ H fun σ2 H2 => tc σ2 H2 fun b H3 =>
      if b = true then te σ2 H3 fun y H4 => ∃ acc, H4 D = some (.lst acc) ∧ acc.length < sizeLine ∧ Pv (i + 1) σ2 (upd H4 D (.lst (acc ++ [y]))) else Pv (i + 1) σ2 H3)
    (hd : ∀ σ H, Pv xs.length σ H → Q (.ref D) H) : CompW (Itl K a) g tc te Q D σ0 H1 := by
  refine ⟨fun i m σ H => m = xs.length - i ∧ i ≤ xs.length ∧ Pv i σ H, ⟨xs.length, by simp, Nat.zero_le _, h0⟩, ?_⟩
  rintro i m σ H ⟨rfl, hi, p⟩
  have q := hl i σ H hi p
  by_cases hlt : i < xs.length
  · refine .inr ⟨⟨xs, xs[i], q, by simp [hlt]⟩, Pv (i + 1), fun σ' H' p' => ⟨xs.length - (i + 1), by omega, rfl, hlt, p'⟩, fun x H' y => ?_⟩
    obtain ⟨e, y⟩ := y
    subst e
    exact hs i x σ _ (y xs q) p
  · have e : i = xs.length := by omega
    subst e
    exact .inl ⟨⟨xs, q, Nat.le_refl _⟩, hd σ H p⟩
theorem comp_range {lo : Int} {n : Nat} (Pv : Nat → St → Hp → Prop) (h0 : Pv 0 σ0 (upd H1 D (.lst [])))
    (hs : ∀ i σ H, i < n → Pv i σ H → g (.int (lo + i)) σ H fun σ2 H2 => tc σ2 H2 fun b H3 =>
      if b = true then te σ2 H3 fun y H4 => ∃ acc, H4 D = some (.lst acc) ∧ acc.length < sizeLine ∧ Pv (i + 1) σ2 (upd H4 D (.lst (acc ++ [y]))) else Pv (i + 1) σ2 H3)
    (hd : ∀ σ H, Pv n σ H → Q (.ref D) H) : CompW (Itr lo n) g tc te Q D σ0 H1 := by
  refine ⟨fun i m σ H => m = n - i ∧ i ≤ n ∧ Pv i σ H, ⟨n, by simp, Nat.zero_le _, h0⟩, ?_⟩
  rintro i m σ H ⟨rfl, hi, p⟩
  by_cases hlt : i < n
  · refine .inr ⟨hlt, Pv (i + 1), fun σ' H' p' => ⟨n - (i + 1), by omega, rfl, hlt, p'⟩, fun x H' y => ?_⟩
    obtain ⟨e, y⟩ := y
    subst e y
    exact hs i σ _ hlt p
  · have e : i = n := by omega
    subst e
    exact .inl ⟨Nat.le_refl _, hd σ H p⟩
end
end L2
set_option Elab.async false
set_option linter.all false
set_option maxRecDepth 100000
set_option maxHeartbeats 4000000
namespace L2
open PySem PySem.Spec PyProof.Rows
/-! ### lists of data: shape and equality -/
section
variable {α : Type} (f : α → PyData)
theorem canAll_map : ∀ (l : List α), (∀ x ∈ l, (f x).canLay0 = true) → PyData.canLayAll0 (l.map f) = true
  | [], _ => rfl
  | a :: l, h => by
    show (PyData.canLay0 (f a) && PyData.canLayAll0 (l.map f)) = true
    rw [h a List.mem_cons_self, canAll_map l fun x hx => h x (List.mem_cons_of_mem _ hx)]; rfl
theorem depthAll_map (k : Nat) : ∀ (l : List α), (∀ x ∈ l, (f x).depth ≤ k) → PyData.depthAll (l.map f) ≤ k
  | [], _ => Nat.zero_le _
  | a :: l, h => by
    show max (PyData.depth (f a)) (PyData.depthAll (l.map f)) ≤ k
    exact Nat.max_le.mpr ⟨h a List.mem_cons_self, depthAll_map k l fun x hx => h x (List.mem_cons_of_mem _ hx)⟩
theorem shaped_list {l : List α} (k : Nat) (hk : k < 64) (h1 : ∀ x ∈ l, (f x).canLay0 = true) (h2 : ∀ x ∈ l, (f x).depth ≤ k) : SeqAt.shaped (.list (l.map f)) = true := by
  unfold SeqAt.shaped
  have e1 : PyData.canLay0 (.list (l.map f)) = true := canAll_map f l h1
  have e2 : PyData.depth (.list (l.map f)) ≤ 64 := by
    show PyData.depthAll (l.map f) + 1 ≤ 64
    have := depthAll_map f k l h2
    omega
  rw [e1, decide_eq_true e2]; rfl
theorem eqvAll_map [DecidableEq α] (h : ∀ x y, PyData.eqv (f x) (f y) = decide (x = y)) : ∀ (l m : List α), PyData.eqvAll (l.map f) (m.map f) = decide (l = m)
  | [], [] => rfl
  | [], _ :: _ => by simp only [List.map_nil, List.map_cons, PyData.eqvAll]; exact (decide_eq_false (by intro z; cases z)).symm
  | _ :: _, [] => by simp only [List.map_nil, List.map_cons, PyData.eqvAll]; exact (decide_eq_false (by intro z; cases z)).symm
  | a :: l, b :: m => by
    simp only [List.map_cons, PyData.eqvAll]
    rw [h a b, eqvAll_map h l m]
    by_cases e1 : a = b
    · subst e1
      by_cases e2 : l = m
      · subst e2; simp
      · simp [e2]
    · simp [e1]
theorem eqv_list [DecidableEq α] (h : ∀ x y, PyData.eqv (f x) (f y) = decide (x = y)) (l m : List α) : PyData.eqv (.list (l.map f)) (.list (m.map f)) = decide (l = m) := by
  simp only [PyData.eqv]; exact eqvAll_map f h l m
end
theorem dat_list {H : Hp} {a : Addr} {vs : List V} {ds : List PyData} (h : H a = some (.lst vs)) (d : Dats H vs ds) : Dat H (.ref a) (.list ds) := by
  simp only [Dat]
  exact ⟨a, vs, rfl, h, d⟩
theorem isi_int_int (K : PySem.W.Frag) : PySem.W.kitOne K (.type "int") (.type "int") = some true := rfl
theorem isi_int_bool (K : PySem.W.Frag) : PySem.W.kitOne K (.type "int") (.type "bool") = some false := by kernel_rfl
theorem isi_list_list (K : PySem.W.Frag) : PySem.W.kitOne K (.type "list") (.type "list") = some true := rfl
theorem isi_tuple_tuple (K : PySem.W.Frag) : PySem.W.kitOne K (.type "tuple") (.type "tuple") = some true := rfl
theorem isi_bool_bool (K : PySem.W.Frag) : PySem.W.kitOne K (.type "bool") (.type "bool") = some true := rfl
end L2
namespace L2
open PySem
theorem cut_drop (xs : List V) (k : Nat) : cutV xs (some (k : Int)) none = xs.drop k := by
  unfold cutV
  rw [HT.sIx_none, HT.sIx_nat]
  by_cases h : k ≤ xs.length
  · rw [Nat.min_eq_left h, List.take_of_length_le (by rw [List.length_drop]; exact Nat.le_refl _)]
  · rw [Nat.min_eq_right (by omega), Nat.sub_self, List.take_zero, List.drop_of_length_le (by omega)]
end L2
set_option Elab.async false
set_option linter.all false
set_option maxRecDepth 100000
set_option maxHeartbeats 4000000
namespace PySem.W
open PySem PySem.Spec PySem.Calls PyProof.Rows
theorem ga_kind : builtinKind "BaseException.__getattribute__" = some .slot := by decide +kernel
theorem ga_split : splitId "BaseException.__getattribute__" = some ("BaseException", "__getattribute__") := by decide +kernel
section
variable {prog : Program} {w : World} {A : Around} {E : Value → Shared → Prop} {s : Shared} {K : Frag} {x D : Addr} {ox : Obj} {odo : Option Obj} {name : Str}
theorem exc_check {M : Model} {nameV : Value} {Q : Unit → Shared → Prop} (X : K.In s.heap) (I : InstAt s.heap x ox D odo) (hB : mroIn K D (.type "BaseException") = some true) (hq : Q () s) :
    wpAny M A (checkBuiltinCall "BaseException.__getattribute__" ⟨[.ref x, nameV], []⟩) Q E s := by
  obtain ⟨hh, g, d, t, os⟩ := s
  have L0 := I.type (M := M)
  have L3 := looks_mroIn (M := M) X hB
  have ha := F.args_bexc_ga (.ref x) nameV
  simp only [checkBuiltinCall, ga_kind, ga_split]
  unfold isInstance
  repeat (first | lk | wp_step)
  all_goals first | exact hq | trace_state
theorem exc_open {Q : Option Value → Shared → Prop} {gv a : Value} (X : K.In s.heap) (I : InstAt s.heap x ox D odo) (hga : findIn K (.ref D) "__getattribute__" = some (some (.builtin "BaseException.__getattribute__")))
    (hk : findIn K (.ref D) "__getattr__" = some none) (hB : mroIn K D (.type "BaseException") = some true) (hf : findObj K D odo name = some (.bind gv a))
    (FB : Slot "Exception" "__getattribute__" "BaseException.__getattribute__")
    (h : ∀ A', codeAny (model prog w) A' (.call gv ⟨[a, .ref x, .ref D], []⟩) (fun r s' => match r with | .ok (.ret v) => wpAny (model prog w) A (handedOut v) (fun v s'' => Q (some v) s'') (fun _ _ => False) s' | _ => False) { s with toks := s.toks + 1 }) :
    wpAny (model prog w) A (getAttr? (.ref x) name) Q E s := by
  obtain ⟨hh, g, d, t, os⟩ := s
  have L0 := I.type (M := model prog w)
  have L1 := looks_findIn (M := model prog w) X hga
  have L2 := looks_findIn (M := model prog w) X hk
  have L4 := looks_find (M := model prog w) X I hf
  have hx2 : (Value.builtin "BaseException.__getattribute__" == Value.builtin "object.__getattribute__") = false := by decide +kernel
  have f3 := FB.bind (.ref x)
  unfold getAttr? getAttrBy? getAttrBy
  refine wpAny_bind (wpAny_mkText (wpAny_bind (wpAny_attempt (wpAny_holding (wpAny_bind (L0.at (wpAny_bind (L1.at ?_))))))))
  simp only [hx2, Bool.and_false, Bool.false_eq_true, if_false]
  unfold getAttrByItsOwn hookBefore
  show wpAny _ _ (typeLookup (.ref D) "__getattr__" >>= _) _ _ _
  refine wpAny_bind (L2.at ?_)
  refine wpAny_bind (wpAny_attempt (wpAny_holding ?_))
  unfold callGetattribute boundAndCalled
  rw [if_neg (by decide)]
  refine wpAny_bind (wpAny_of_eq f3 ?_)
  refine wpAny_call (codeAny_call_builtin FB.plain F.entry_bexc_ga (exc_check (s := ⟨hh, g, d, t + 1, os⟩) X I hB ?_))
  show wpAny _ _ (Builtin.«object.__getattribute__» ⟨[.ref x, .str name t], []⟩) _ _ _
  unfold Builtin.«object.__getattribute__»
  refine wpAny_bind (wpAny_pure ?_)
  refine wpAny_bind (wpAny_pure ?_)
  refine wpAny_bind (L0.at (wpAny_bind (L4.at ?_)))
  show wpAny _ _ (Builtin.ObjectAttr.bindTo gv a (.ref x) (.ref D)) _ _ _
  unfold Builtin.ObjectAttr.bindTo
  show wpAny _ _ (holding [a] (call gv [a, .ref x, .ref D]) >>= fun v => ret v) _ _ _
  refine wpAny_bind (wpAny_holding (wpAny_call (codeAny_mono (h _) fun r s' hr => ?_)))
  match r, hr with
  | .ok (.ret v), hr =>
    refine wpAny_pure ?_
    exact wpAny_mono hr (fun v s'' q => wpAny_pure q) fun _ _ z => z.elim
end
theorem exc_slot : Slot "Exception" "__getattribute__" "BaseException.__getattribute__" := F.attr_Exception.ga
theorem findObj_dataO {K : Frag} {C : Addr} {od : Option Obj} {name : Str} {a g : Value} (hc : (clsIn K C).isSome = true) (ha : findIn K (.ref C) name = some (some a)) (hg : specialIn K a "__get__" = some (some g)) (ht : takesIn K a = some true) : findObj K C od name = some (.bind g a) := by
  obtain ⟨cd, hc⟩ := Option.isSome_iff_exists.mp hc
  unfold findObj
  rw [hc, Option.bind_some, ha, Option.bind_some]
  simp [hg, ht]
/-- e.__class__ of an exception of an own class without a dict -/
theorem exc_class {prog : Program} {w : World} {A : Around} {E : Value → Shared → Prop} {s : Shared} {K : Frag} {x D : Addr} {ox : Obj} {odo : Option Obj} {Q : Option Value → Shared → Prop} (X : K.In s.heap) (I : InstAt s.heap x ox D odo)
    (hga : findIn K (.ref D) "__getattribute__" = some (some (.builtin "BaseException.__getattribute__"))) (hk : findIn K (.ref D) "__getattr__" = some none) (hB : mroIn K D (.type "BaseException") = some true)
    (hc : (clsIn K D).isSome = true) (ha : findIn K (.ref D) "__class__" = some (some (.builtin "object.__class__")))
    (hn : specialIn K (.builtin "object.__class__") "__get__" = some (some (.builtin "getset_descriptor.__get__"))) (htk : takesIn K (.builtin "object.__class__") = some true) (hm : mroIn K D (.type "object") = some true)
    (h : Q (some (.ref D)) { s with toks := s.toks + 1 }) : wpAny (model prog w) A (getAttr? (.ref x) "__class__") Q E s := by
  have hf : findObj K D odo "__class__" = some (.bind (.builtin "getset_descriptor.__get__") (.builtin "object.__class__")) := findObj_dataO hc ha hn htk
  exact exc_open X I hga hk hB hf exc_slot fun A' => class_get (s := { s with toks := s.toks + 1 }) X I hm (handed_on rfl h)
/-- what the text's class of exceptions must have -/
structure XCls (K : Frag) (D : Addr) : Prop where
  hga : findIn K (.ref D) "__getattribute__" = some (some (.builtin "BaseException.__getattribute__"))
  hk : findIn K (.ref D) "__getattr__" = some none
  hB : mroIn K D (.type "BaseException") = some true
  hc : (clsIn K D).isSome = true
  ha : findIn K (.ref D) "__class__" = some (some (.builtin "object.__class__"))
  hn : specialIn K (.builtin "object.__class__") "__get__" = some (some (.builtin "getset_descriptor.__get__"))
  htk : takesIn K (.builtin "object.__class__") = some true
  hm : mroIn K D (.type "object") = some true
theorem kitx_exc {K : Frag} {x D : Addr} (c : XCls K D) : KitX K (.ref x) (.ref D) (fun h => ∃ ox odo, InstAt h x ox D odo) where
  ty := fun _ _ _ ⟨_, _, I⟩ => I.type
  it := fun _ _ X _ => by
    have hc := c.hc
    unfold clsIn at hc
    split at hc
    · rename_i c' d' cd' sl' ho
      intro A' Q' E' s' k q
      unfold isType loadHead
      exact wpAny_bind (wpAny_loadPart (k _ _ (X _ _ ho)) (wpAny_pure q))
    · cases hc
  ne := fun h tp dd its n sl X htp => by
    have hc := c.hc
    refine Bool.eq_false_iff.mpr fun q => ?_
    have e : D = tp := Value.ref.inj (beq_iff_eq.mp q)
    subst e
    unfold clsIn at hc
    split at hc
    · rename_i c' d' cd' sl' ho
      have z := (X _ _ ho).symm.trans htp
      cases z
    · cases hc
  ca := fun X ⟨_, _, I⟩ k => exc_class X I c.hga c.hk c.hB c.hc c.ha c.hn c.htk c.hm k
end PySem.W
set_option Elab.async false
set_option linter.all false
set_option maxRecDepth 100000
set_option maxHeartbeats 4000000
namespace L2
open PySem PySem.Spec PyProof.Rows

/-! ### an exception and its record -/
/-- the exception at e: of the class cls, its dict at dx; fl: none, no record yet; some f: its record's flight is f, the record lies where lo says -/
def XObj (h : Heap) (e : Addr) (cls : Value) (dx : Option Addr) (lo : Addr → Prop) : Option Value → Prop
  | none => ∃ oe vs, h.get? e = some oe ∧ oe.cls = cls ∧ oe.dict = dx ∧ oe.data = .fields vs ∧ vs[1]? = some .none
  | some f => ∃ oe vs T oT ts, h.get? e = some oe ∧ oe.cls = cls ∧ oe.dict = dx ∧ oe.data = .fields vs ∧ vs[1]? = some (.ref T) ∧ lo T ∧ T ≠ e ∧ h.get? T = some oT ∧ oT.data = .fields ts ∧ ts[3]? = some f
theorem XObj.there {h : Heap} {e : Addr} {cls : Value} {dx : Option Addr} {lo : Addr → Prop} {f : Option Value} (x : XObj h e cls dx lo f) : ∃ oe vs, h.get? e = some oe ∧ oe.cls = cls ∧ oe.dict = dx ∧ oe.data = .fields vs := by
  cases f with
  | none => obtain ⟨oe, vs, a, b, c, d, _⟩ := x; exact ⟨oe, vs, a, b, c, d⟩
  | some f => obtain ⟨oe, vs, _, _, _, a, b, c, d, _⟩ := x; exact ⟨oe, vs, a, b, c, d⟩

section
variable {M : Model} {A : Around} {E : Value → Shared → Prop} {s : Shared} {base : Heap} {env : Env} {outer : List Env} {L e : Addr}
/-- what a note leaves: all but the frames' slots, the exception and old records -/
structure Noted (fr : List Addr) (e : Addr) (lo : Addr → Prop) (h h' : Heap) : Prop where
  keep : ∀ b o, h.get? b = some o → b ∉ fr → b ≠ e → ¬ lo b → h'.get? b = some o
  slot : ∀ b o, h.get? b = some o → b ∈ fr → b ≠ e → ¬ lo b → ∃ sl, h'.get? b = some { o with slots := sl }
  there : ∀ b o, h.get? b = some o → ∃ o', h'.get? b = some o'
theorem Noted.trans {fr : List Addr} {lo : Addr → Prop} {h h1 h2 : Heap} (a : Noted fr e lo h h1) (b : Noted fr e lo h1 h2) : Noted fr e lo h h2 where
  keep := fun c o q n1 n2 n3 => b.keep c o (a.keep c o q n1 n2 n3) n1 n2 n3
  slot := fun c o q n1 n2 n3 => by
    obtain ⟨sl, q1⟩ := a.slot c o q n1 n2 n3
    obtain ⟨sl2, q2⟩ := b.slot c _ q1 n1 n2 n3
    exact ⟨sl2, q2⟩
  there := fun c o q => by
    obtain ⟨o1, q1⟩ := a.there c o q
    exact b.there c o1 q1
theorem upd_fields {h : Heap} {a : Addr} {o : Obj} {vs : Array Value} (q : h.get? a = some o) (d : o.data = .fields vs) (i : Nat) (v : Value) :
    (h.update a (Obj.mapFields (·.setIfInBounds i v))).get? a = some (Obj.mapFields (·.setIfInBounds i v) o) ∧ (Obj.mapFields (·.setIfInBounds i v) o).data = .fields (vs.setIfInBounds i v) ∧
      (Obj.mapFields (·.setIfInBounds i v) o).cls = o.cls ∧ (Obj.mapFields (·.setIfInBounds i v) o).dict = o.dict := by
  have d2 := Obj.data_mapFields d (·.setIfInBounds i v)
  refine ⟨Heap.get?_update_self _ q (Obj.isFreed_of_fields d2), d2, Obj.cls_mapFields _ _, ?_⟩
  obtain ⟨c, dd, dt, sl⟩ := o
  simp only at d
  subst d
  rfl
/-- a record is laid and named by the exception -/
theorem xentry {oe : Obj} {vs : Array Value} {head : Value} {hadNext : Bool} {cls : Value} {dx : Option Addr} {lo : Addr → Prop} {Q : Unit → Shared → Prop} (hfr : A.frames = some (env :: outer)) (hl : s.heap.FunFrames base (env :: outer)) (hf : env.frame = some L)
    (he : s.heap.get? e = some oe) (hd : oe.data = .fields vs) (hsz : 1 < vs.size) (hc : oe.cls = cls) (hdx : oe.dict = dx) (hlo : ∀ T, s.heap.get? T = none → lo T)
    (h : ∀ h', Noted (frs (env :: outer)) e lo s.heap h' → XObj h' e cls dx lo (some (rawInt L)) → Q () { s with heap := h' }) :
    wpAny M A (do let a ← frameOf env; let pl ← entryPlaceOf L hadNext; let b ← EntryCells.newEntry head a .none (rawInt L) .none pl; setField (.ref e) 1 b) Q E s := by
  have nfr : e ∉ frs (env :: outer) := fun hm => by
    obtain ⟨_, o, q, nf⟩ := hl.mem hm
    rw [he] at q
    cases q
    exact nf vs hd
  refine wpAny_bind (wpAny_frameOf_fun hfr hl hf fun h1 hs1 => ?_)
  refine wpAny_bind (wpAny_entryPlaceOf fun pl hpl => ?_)
  unfold EntryCells.newEntry newFields
  refine wpAny_bind (wpAny_newObj_type ?_ (hpl.sizeOk5 _ _ _ _ _))
  generalize hob : ({ cls := .type "traceback", dict := none, data := .fields ([head, .ref L, .none, rawInt L, .none] ++ (if pl.isEmpty then List.replicate 6 Value.none else pl)).toArray } : Obj) = ob
  have q1 : h1.get? e = some oe := (hs1.2.1 e nfr).trans he
  have q2 := Heap.get?_push_of_some (h := h1) ob q1
  have nTe : h1.objs.size ≠ e := Nat.ne_of_gt (Heap.lt_size q1)
  have sizes : h1.objs.size = s.heap.objs.size := hs1.1
  have newT : s.heap.get? h1.objs.size = none := Heap.get?_none_of_le (by rw [sizes]; exact Nat.le_refl _)
  refine wpAny_setField q2 hd hsz (h _ ⟨fun b o q n1 n2 n3 => ?_, fun b o q n1 n2 n3 => ?_, fun b o q => ?_⟩ ?_)
  · rw [Heap.get?_update_other _ _ (Ne.symm n2)]
    exact Heap.get?_push_of_some _ ((hs1.2.1 b n1).trans q)
  · obtain ⟨sl, q3⟩ := hs1.2.2 b o q
    refine ⟨sl, ?_⟩
    rw [Heap.get?_update_other _ _ (Ne.symm n2)]
    exact Heap.get?_push_of_some _ q3
  · obtain ⟨sl, q3⟩ := hs1.2.2 b o q
    by_cases hb : b = e
    · subst hb
      exact ⟨_, (upd_fields q2 hd 1 _).1⟩
    · refine ⟨{ o with slots := sl }, ?_⟩
      rw [Heap.get?_update_other _ _ (Ne.symm hb)]
      exact Heap.get?_push_of_some _ q3
  · obtain ⟨u1, u2, u3, u4⟩ := upd_fields q2 hd 1 (Value.ref h1.objs.size)
    refine ⟨_, _, h1.objs.size, ob, _, u1, u3.trans hc, u4.trans hdx, u2, by simp [hsz], hlo _ newT, nTe, ?_, by rw [← hob], ?_⟩
    · rw [Heap.get?_update_other _ _ (Ne.symm nTe)]
      exact Heap.get?_push_size _ (by rw [← hob]; rfl)
    · first | (simp; done) | (rcases hpl with rfl | ⟨_, _, _, _, _, _, _, rfl⟩ <;> simp)
/-- an exception without record, or with one that is not in flight, is noted at a frame -/
theorem xnote {cls : Value} {dx : Option Addr} {lo : Addr → Prop} {Q : Unit → Shared → Prop} {fl : Option Value} (hfl : fl = none ∨ fl = some .none) (hfr : A.frames = some (env :: outer)) (hl : s.heap.FunFrames base (env :: outer)) (hf : env.frame = some L)
    (x : XObj s.heap e cls dx lo fl) (hlo : ∀ T, s.heap.get? T = none → lo T)
    (h : ∀ h', Noted (frs (env :: outer)) e lo s.heap h' → XObj h' e cls dx lo (some (rawInt L)) → Q () { s with heap := h' }) : wpAny M A (noteFrame (.ref e) env) Q E s := by
  unfold noteFrame
  simp only [hf]
  rcases hfl with rfl | rfl
  · obtain ⟨oe, vs, he, hc, hdx, hd, h1⟩ := x
    refine wpAny_bind (wpAny_field he hd h1 ?_)
    rw [if_neg (by decide)]
    exact xentry hfr hl hf he hd (Array.getElem?_eq_some_iff.mp h1).1 hc hdx hlo h
  · obtain ⟨oe, vs, T, oT, ts, he, hc, hdx, hd, h1, hT, nT, hgT, hdT, h3⟩ := x
    refine wpAny_bind (wpAny_field he hd h1 ?_)
    rw [if_pos (show (Value.ref T != Value.none) = true from by simp)]
    refine wpAny_bind (wpAny_field hgT hdT h3 ?_)
    rw [if_neg (show ¬ ((Value.none == rawInt L) = true) from by simp [rawInt])]
    have hs3 : 3 < ts.size := (Array.getElem?_eq_some_iff.mp h3).1
    refine wpAny_bind (wpAny_setField hgT hdT hs3 ?_)
    have oth : ∀ b, b ≠ T → (s.heap.update T (Obj.mapFields (·.setIfInBounds 3 Value.none))).get? b = s.heap.get? b := fun b hb => Heap.get?_update_other _ _ (Ne.symm hb)
    obtain ⟨u1, u2, u3, u4⟩ := upd_fields hgT hdT 3 Value.none
    have n0 : Noted (frs (env :: outer)) e lo s.heap (s.heap.update T (Obj.mapFields (·.setIfInBounds 3 Value.none))) := by
      have nb : ∀ b, ¬ lo b → b ≠ T := fun b hb z => hb (by rw [z]; exact hT)
      refine ⟨fun b o q _ _ n3 => (oth b (nb b n3)).trans q, fun b o q _ _ n3 => ⟨o.slots, (oth b (nb b n3)).trans q⟩, fun b o q => ?_⟩
      by_cases hb : b = T
      · subst hb; exact ⟨_, u1⟩
      · exact ⟨o, (oth b hb).trans q⟩
    have ffs : (s.heap.update T (Obj.mapFields (·.setIfInBounds 3 Value.none))).FunFrames base (env :: outer) := hl.of_keeps fun b o q nf => by
      by_cases hb : b = T
      · subst hb; rw [hgT] at q; cases q; exact absurd hdT (nf ts)
      · exact ⟨o, (oth b hb).trans q, rfl⟩
    refine xentry (s := { s with heap := s.heap.update T (Obj.mapFields (·.setIfInBounds 3 Value.none)) }) hfr ffs hf ((oth e (Ne.symm nT)).trans he) hd (Array.getElem?_eq_some_iff.mp h1).1 hc hdx (fun T' z => ?_) fun h' n1 x1 => h h' (n0.trans n1) x1
    by_cases hb : T' = T
    · rw [hb]; exact hT
    · exact hlo T' ((oth T' hb).symm.trans z)
/-- its flight is ended -/
theorem xland {cls : Value} {dx : Option Addr} {lo : Addr → Prop} {Q : Unit → Shared → Prop} {fr : List Addr} {f : Value} (x : XObj s.heap e cls dx lo (some f)) 
    (h : ∀ h', Noted fr e lo s.heap h' → XObj h' e cls dx lo (some .none) → Q () { s with heap := h' }) : wpAny M A (setFlight (.ref e) none) Q E s := by
  obtain ⟨oe, vs, T, oT, ts, he, hc, hdx, hd, h1, hT, nT, hgT, hdT, h3⟩ := x
  have hs3 : 3 < ts.size := (Array.getElem?_eq_some_iff.mp h3).1
  unfold setFlight
  refine wpAny_bind (wpAny_field he hd h1 ?_)
  rw [if_pos (show (Value.ref T != Value.none) = true from by simp)]
  have oth : ∀ b, b ≠ T → (s.heap.update T (Obj.mapFields (·.setIfInBounds 3 Value.none))).get? b = s.heap.get? b := fun b hb => Heap.get?_update_other _ _ (Ne.symm hb)
  obtain ⟨u1, u2, u3, u4⟩ := upd_fields hgT hdT 3 Value.none
  have nb : ∀ b, ¬ lo b → b ≠ T := fun b hb z => hb (by rw [z]; exact hT)
  refine wpAny_setField hgT hdT hs3 (h _ ⟨fun b o q _ _ n3 => (oth b (nb b n3)).trans q, fun b o q _ _ n3 => ⟨o.slots, (oth b (nb b n3)).trans q⟩, fun b o q => ?_⟩ ?_)
  · by_cases hb : b = T
    · subst hb; exact ⟨_, u1⟩
    · exact ⟨o, (oth b hb).trans q⟩
  · exact ⟨oe, vs, T, _, _, (oth e (Ne.symm nT)).trans he, hc, hdx, hd, h1, hT, nT, u1, u2, by simp [hs3]⟩
end

section
variable {X : Cx} {pins : List (Addr × Obj)} {σ : St} {H : Hp} {s : Shared} {e : Addr}
theorem ObjOk.there {P : Program} {w : World} {H : Hp} {h : Heap} {a : Addr} {o : HO} (x : ObjOk P w H h a o) : ∃ ob, h.get? a = some ob := by
  induction o with
  | lst xs => obtain ⟨_, _, _, _, q⟩ := x; exact ⟨_, q⟩
  | tup xs => obtain ⟨_, _, _, ob, q, _⟩ := x; exact ⟨ob, q⟩
  | dK kvs => obtain ⟨_, _, _, _, ob, _, _, q, _⟩ := x; exact ⟨ob, q⟩
  | dT kvs => obtain ⟨_, _, _, _, ob, _, _, q, _⟩ := x; exact ⟨ob, q⟩
  | set S n => obtain ⟨ob, _, _, _, q, _⟩ := x; exact ⟨ob, q⟩
  | ins C dx fs => obtain ⟨_, _, _, q, _⟩ := x; exact ⟨_, q⟩
  | own y => exact x
  | xd fs => obtain ⟨_, ⟨ob, _, _, q, _⟩, _⟩ := x; exact ⟨ob, q⟩
  | rng lo hi => obtain ⟨_, _, _, q⟩ := x; exact ⟨_, q⟩
  | frz ob u ih => exact ⟨ob, x.1⟩
  | tbl ps => exact ⟨_, x⟩
  | met f y => exact ⟨_, x⟩
  | ext φ => exact x.2.1
/-- an address of the exception's own: not tracked, not of the frame's, unknown at the entry -/
def XFp (X : Cx) (pins : List (Addr × Obj)) (H : Hp) (b : Addr) : Prop :=
  H b = none ∧ b ≠ X.env.locals ∧ b ∉ X.fs ∧ X.s₀.heap.get? b = none ∧ (∀ x c, X.env.cells.lookup x = some c → c ≠ b) ∧ ∀ p ∈ X.pn ++ pins, p.1 ≠ b
theorem Inv.xfp (I : Inv X pins σ H s) (hx : X.ex = []) {b : Addr} (hb : s.heap.get? b = none) : XFp X pins H b := by
  refine ⟨?_, fun z => ?_, fun z => ?_, ?_, fun x c q z => ?_, fun p hp z => ?_⟩
  · cases q : H b with
    | none => rfl
    | some o =>
      obtain ⟨ob, r⟩ := (I.hok b o q).there
      rw [hb] at r; cases r
  · obtain ⟨m, ⟨o, _, _, r, _⟩, _⟩ := I.loc
    rw [← z, hb] at r; cases r
  · obtain ⟨_, o, r, _⟩ := I.funs.mem z
    rw [hb] at r; cases r
  · cases q : X.s₀.heap.get? b with
    | none => rfl
    | some o =>
      obtain ⟨o', r⟩ := I.base.there b o q (by rw [hx]; simp)
      rw [hb] at r; cases r
  · obtain ⟨v, o, r, _⟩ := I.cell x c q
    rw [z, hb] at r; cases r
  · obtain ⟨r, _⟩ := I.pin p hp
    rw [z, hb] at r; cases r
/-- a note leaves the frame's state -/
theorem Inv.noted {lo : Addr → Prop} {h' : Heap} (I : Inv X pins σ H s) (n : Noted (frs X.stack) e lo s.heap h') (hlo : ∀ b, (b = e ∨ lo b) → XFp X pins H b ∨ s.heap.get? b = none) : Inv X pins σ H { s with heap := h' } := by
  have off : ∀ b o, s.heap.get? b = some o → (¬ XFp X pins H b) → b ≠ e ∧ ¬ lo b := fun b o q nx =>
    ⟨fun z => (hlo b (.inl z)).elim nx fun r => (by rw [r] at q; cases q), fun z => (hlo b (.inr z)).elim nx fun r => (by rw [r] at q; cases q)⟩
  have any : ∀ b o, s.heap.get? b = some o → (¬ XFp X pins H b) → ∃ sl, h'.get? b = some { o with slots := sl } := fun b o q nx => by
    obtain ⟨n1, n2⟩ := off b o q nx
    by_cases hb : b ∈ frs X.stack
    · exact n.slot b o q hb n1 n2
    · exact ⟨o.slots, n.keep b o q hb n1 n2⟩
  have s0 : ∀ b o, X.s₀.heap.get? b = some o → ¬ XFp X pins H b := fun b o q x => by rw [x.2.2.2.1] at q; cases q
  have neL : ∀ b o, X.s₀.heap.get? b = some o → b ≠ X.env.locals := fun b o q => Nat.ne_of_lt (Nat.lt_of_lt_of_le (Heap.lt_size q) I.ok.above)
  have nst : ∀ b, b ≠ X.env.locals → b ∉ X.fs → b ∉ frs X.stack := fun b n1 n2 z => (List.mem_cons.mp (I.stkSub b z)).elim n1 n2
  have trk : ∀ b o, H b = some o → ¬ XFp X pins H b := fun b o q x => by rw [x.1] at q; cases q
  have trkf : ∀ b o, H b = some o → b ∉ frs X.stack := fun b o q z => by rw [I.stkFree b z] at q; cases q
  have cl : ∀ x c, X.env.cells.lookup x = some c → ∀ v, s.heap.IsCell c v → h'.IsCell c v := fun x c q v ⟨o, ho, hd⟩ => by
    obtain ⟨sl, r⟩ := any c o ho fun z => z.2.2.2.2.1 x c q rfl
    exact ⟨_, r, hd⟩
  refine ⟨I.ok, I.os, I.bare, ⟨fun b o q nn hb hx => ?_, fun b o q nn hb hx => ?_, I.base.free, fun b o q hx => ?_, I.base.tups, I.base.frzs, I.base.tbls⟩, ?_, fun x c q => ?_, I.free, I.freeC, fun p hp => ?_, fun a o q => ?_, I.len⟩
  · have q1 := I.base.keep b o q nn hb hx
    obtain ⟨n1, n2⟩ := off b o q1 (s0 b o q)
    exact n.keep b o q1 (nst b (neL b o q) hb) n1 n2
  · obtain ⟨sl, q1⟩ := I.base.slot b o q nn hb hx
    obtain ⟨sl2, q2⟩ := any b _ q1 (s0 b o q)
    exact ⟨sl2, q2⟩
  · obtain ⟨o1, q1⟩ := I.base.there b o q hx
    exact n.there b o1 q1
  · obtain ⟨m, ⟨ob, es, ep, ho, r⟩, hl⟩ := I.loc
    obtain ⟨sl, q1⟩ := any _ ob ho fun z => z.2.1 rfl
    refine ⟨m, ⟨_, es, ep, q1, r⟩, fun i x v e1 e2 e3 => ?_⟩
    obtain ⟨u, ru, l⟩ := hl i x v e1 e2 e3
    refine ⟨u, ru, ?_⟩
    rcases l with l | ⟨k, c, hc, z⟩
    · exact .inl l
    · exact .inr ⟨k, c, hc, cl x c hc _ z⟩
  · obtain ⟨v, z⟩ := I.cell x c q
    exact ⟨v, cl x c q v z⟩
  · obtain ⟨q, nn, n1, n2, d⟩ := I.pin p hp
    obtain ⟨m1, m2⟩ := off p.1 p.2 q fun z => z.2.2.2.2.2 p hp rfl
    exact ⟨n.keep p.1 p.2 q (nst p.1 n1 n2) m1 m2, nn, n1, n2, d⟩
  · refine (I.hok a o q).stay (fun b u hb r => ?_) (fun _ z => z) fun _ _ z => z
    rcases hb with rfl | hb
    · obtain ⟨m1, m2⟩ := off b u r (trk b o q)
      exact n.keep b u r (trkf b o q) m1 m2
    · obtain ⟨m1, m2⟩ := off b u r (trk b _ hb)
      exact n.keep b u r (trkf b _ hb) m1 m2

/-- how an exception lies behind a call -/
def CX1 (P : Program) (w : World) : CXT := fun outer H s E ev s' => ∃ (e : Addr) (cls : Value) (dx : Option Addr) (H' : Hp), ev = .ref e ∧ s'.os = s.os ∧ AllBare s'.gens ∧ Un (frs outer) [] H H' s.heap s'.heap ∧ HOk P w H' s'.heap ∧
  s.heap.get? e = none ∧ H' e = none ∧ XObj s'.heap e cls dx (fun T => s.heap.get? T = none ∧ H' T = none) (some .none) ∧ E cls dx H'
/-- exceptions that fulfil E may come up in this body, at a state of the frame -/
def Rz (X : Cx) (E : St → XK) : Prop := ∀ (pins : List (Addr × Obj)) (σ : St) (H : Hp) (s : Shared) (e : Addr) (cls : Value) (dx : Option Addr) (fl : Option Value), (fl = none ∨ fl = some .none) → Inv X pins σ H s → XFp X pins H e →
  XObj s.heap e cls dx (XFp X pins H) fl → E σ cls dx H → X.xe (.ref e) s
theorem XObj.imp {h : Heap} {e : Addr} {cls : Value} {dx : Option Addr} {lo lo' : Addr → Prop} {f : Option Value} (x : XObj h e cls dx lo f) (k : ∀ T, (∃ o, h.get? T = some o) → lo T → lo' T) : XObj h e cls dx lo' f := by
  cases f with
  | none => exact x
  | some f =>
    obtain ⟨oe, vs, T, oT, ts, he, hc, hdx, hd, h1, hT, nT, hgT, r⟩ := x
    exact ⟨oe, vs, T, oT, ts, he, hc, hdx, hd, h1, k T ⟨oT, hgT⟩ hT, nT, hgT, r⟩
/-- a callee's exception reaches the body's wish -/
theorem passes1 {E : St → XK} {σ : St} (hx : X.ex = []) (R : Rz X E) {pins : List (Addr × Obj)} {H : Hp} {s s' : Shared} {ev : Value} (I : Inv X pins σ H s) (c : CX1 X.prog X.w X.stack H s (E σ) ev s') : X.xe ev s' := by
  obtain ⟨e, cls, dx, H', rfl, ho, hg, u, hok, ne, he, x, q⟩ := c
  have I' : Inv X pins σ H' s' := I.call' (ch := []) ho u hok hg (fun b hb => by cases hb)
  have fp : ∀ T, s.heap.get? T = none → H' T = none → XFp X pins H' T := fun T h1 h2 => by
    obtain ⟨_, a2, a3, a4, a5, a6⟩ := I.xfp hx h1
    exact ⟨h2, a2, a3, a4, a5, a6⟩
  exact R pins σ H' s' e cls dx _ (.inr rfl) I' (fp e ne he) (x.imp fun T _ z => fp T z.1 z.2) q
/-- .. leaves a def's body -/
theorem rz_leave {P : Program} {w : World} {K : PySem.W.Frag} {mg : Str → Option Value} {base : Heap} {N : List Str} {qual : Str} {scope : Scope} {f : Addr} {cd : Value} {A : Around} {outer : List Env} {s : Shared} {H : Hp} {E : XK} :
    Rz (cxOf (CX1 P w) P w K mg base N qual scope f cd A outer s H E) (fun _ => E) := by
  intro pins σ H1 s1 e cls dx fl hfl I fe x q
  show wpAny (model P w) _ (leaving _ (.ref e)) _ _ s1
  unfold leaving
  have lo1 : ∀ b, (b = e ∨ (XFp (cxOf (CX1 P w) P w K mg base N qual scope f cd A outer s H E) pins H1 b ∨ s1.heap.get? b = none)) → XFp (cxOf (CX1 P w) P w K mg base N qual scope f cd A outer s H E) pins H1 b ∨ s1.heap.get? b = none := fun b z => z.elim (fun z => .inl (by rw [z]; exact fe)) fun z => z
  have stk : (cxOf (CX1 P w) P w K mg base N qual scope f cd A outer s H E).A.frames = some ((cxOf (CX1 P w) P w K mg base N qual scope f cd A outer s H E).env :: outer) := I.ok.frames
  refine wpAny_bind (xnote (base := base) (lo := fun T => XFp (cxOf (CX1 P w) P w K mg base N qual scope f cd A outer s H E) pins H1 T ∨ s1.heap.get? T = none) hfl stk I.stack rfl (x.imp fun T _ z => .inl z) (fun T z => .inr z) fun h1 n1 x1 => ?_)
  refine xland (fr := frs ((cxOf (CX1 P w) P w K mg base N qual scope f cd A outer s H E).env :: outer)) x1 fun h2 n2 x2 => ?_
  have I2 : Inv (cxOf (CX1 P w) P w K mg base N qual scope f cd A outer s H E) pins σ H1 { s1 with heap := h2 } := I.noted (n1.trans n2) lo1
  refine ⟨e, cls, dx, H1, rfl, I2.os, I2.bare, I2.base, I2.hok, fe.2.2.2.1, fe.1, x2.imp fun T _ z => ?_, q⟩
  rcases z with z | z
  · exact ⟨z.2.2.2.1, z.1⟩
  · have y := I.xfp rfl z
    exact ⟨y.2.2.2.1, y.1⟩
end
end L2
set_option Elab.async false
set_option linter.all false
set_option maxRecDepth 100000
set_option maxHeartbeats 4000000
namespace L2
open PySem PySem.Spec PyProof.Rows

/-! ### calls that may raise -/
def FnAtX (P : Program) (w : World) (K : PySem.W.Frag) (mg : Str → Option Value) (base : Heap) (k : Nat) (x : Str) (ps : List Str) (sp : Sp) : Prop :=
  ∃ f fd, FnOk P w K mg base (CX1 P w) k f fd ps sp ∧ mg x = some (.ref f) ∧ PySem.W.keepIn K (.ref f) = true ∧ Binds K fd ps []
def tCallX (sp : Sp) (E : St → XK) (t : TA) : TE := fun σ H Q => t σ H fun vs H1 => sp vs H1 Q (E σ)
section
variable {X : Cx} {k : Nat} {x : Str} {ps : List Str} {sp : Sp} {e : Expr} {es : List Expr} {t : TA} {p pos : Pos} {E : St → XK}
theorem pe_fnX (F : FnAtX X.prog X.w X.K X.mg X.base k x ps sp) (hx : X.ex = []) (R : Rz X E) (hr : Room k X.A) (hg : Gl X x) (ha : PA X (e :: es) t) (hd : (x == ("__debug__" : Str)) = false := by decide)
    (he : starEach (e :: es) X.env = (false, eval e X.env) :: starEach es X.env := by rfl) (hpl : (backTo pos (starEach es X.env)).any (·.1) = false := by rfl) :
    PE X (.Call (.Name x p) (e :: es) [] pos) (tCallX sp E t) := by
  obtain ⟨f, fd, G, hm, hk, hb⟩ := F
  intro pins s σ H Q I h
  refine wpAny_Call_Name_kw (ld_glob I hg hm ?_ hd)
  refine PySem.W.callWith_K (h₀ := X.base) I.ok.mod.kin hk (thn (ha pos pins s σ H _ I h) fun us s1 ⟨vs, H1, I1, r, q⟩ => ⟨I1.kIn, ?_⟩) he hpl
  have hlen : us.length = ps.length := by rw [← r.length]; exact G.len _ _ _ _ q
  have hbd := hb s1 us I1.kIn (by rw [List.append_nil]; exact hlen)
  rw [List.append_nil] at hbd
  refine wpAny_call (codeAny_mono (G.run X.A X.stack s1 H1 ⟨us, []⟩ us vs Q (E σ) hr I1.env0 hbd r q) fun res s' hq => ?_)
  match res, hq with
  | .error ev, hq => exact passes1 hx R I1 hq
  | .ok (.ret u), hq => exact I1.after hq
end
section
variable {P : Program} {w : World} {K : PySem.W.Frag} {mg : Str → Option Value} {base : Heap}
/-- a def whose exceptions leave it -/
theorem Fun.okX {x qual : Str} {st : Stmt} {f : Addr} {fd : FuncData} {N ps : List Str} {k : Nat} {sp : Sp} (F : Fun K x qual st f fd) (S : FnScope N ps (defScope st)) (len : ∀ vs H Q E, sp vs H Q E → vs.length = ps.length)
    (hbody : ∀ (cdv : Value) (A : Around) (outer : List Env) (s : Shared) (H : Hp) (vs : List V) (Q : VK) (E : XK), Room k (A.deeper (envOfC qual (defScope st) s.heap.objs.size f cdv)) → sp vs H Q E →
      Rz (cxOf (CX1 P w) P w K mg base N qual (defScope st) f cdv A outer s H E) (fun _ => E) →
      ∃ t, PSs (cxOf (CX1 P w) P w K mg base N qual (defScope st) f cdv A outer s H E) (defBody st) t ∧ t { nx := fun _ H' => Q .non H', rt := Q } (start N vs) H) : FnOk P w K mg base (CX1 P w) (k + 1) f fd ps sp := by
  obtain ⟨oc, od, kV, doc, pm, an, cdv, ct, osl, rfl, lk, hcd⟩ := F.ex
  exact fn_of lk hcd S len fun A outer s H vs Q E hr hsp => hbody cdv A outer s H vs Q E hr hsp rz_leave
end

/-! ### raise C(..), C an own class without an __init__ -/
theorem exc_obj {K : PySem.W.Frag} {h : Heap} {C : Addr} {bmB : List Value} {newId : String} (X : K.In h) (q : PySem.W.excIn K C bmB newId = true) :
    ∃ bm N nm qn bs hdct sn sub ab col dd k0 k1 k2 k3 k5 mN, h.get? C = some (excClassObj nm qn C N bs bm hdct sn sub ab col dd k0 k1 k2 k3 k5 newId) ∧ h.Ns N mN ∧ mN "__init__" = none ∧ OwnTail h bmB bm := by
  unfold PySem.W.excIn at q
  split at q
  · rename_i d0 c0 s0 lk
    split at q
    · rename_i C1 tl a0 a1 a2 a3 nn a5 em es
      simp only [Bool.and_eq_true, beq_iff_eq, Bool.not_eq_true'] at q
      obtain ⟨⟨⟨⟨⟨e1, e2⟩, e3⟩, e4⟩, e5⟩, e6⟩ := q
      subst e1 e2
      obtain ⟨f1, f2, f3, f4, f5, f6, f7, f8, f9, f10, f11⟩ := c0
      dsimp only at em e3 e5 e6
      subst em e3
      have ez : s0 = #[a0, a1, a2, a3, some (.builtin nn), a5] := by
        obtain ⟨l⟩ := s0
        simp only at es
        rw [es]
      subst ez
      exact ⟨tl, f4, _, _, _, _, _, _, _, _, _, _, _, _, _, _, _, X _ _ lk, .of_isNs (PySem.W.isNs_of_in X e5), PySem.W.nsMap_none_of_in X e5 e6, PySem.W.tail_of_in X e4⟩
    · cases q
  · cases q
def tRaise (cls : Value) (E : St → XK) (ta : TA) : TS := fun _ σ H => ta σ H fun vs H1 => vs.length ≤ sizeLine ∧ E σ cls none H1
section
variable {X : Cx} {E : St → XK} {x : Str} {C : Addr} {B newId initId : String} {bmB : List Value} {e0 : Expr} {rest : List Expr} {ta : TA} {np cpos pos : Pos}
theorem ps_raise (FB : ExcBaseFacts B newId initId bmB) (q : PySem.W.excIn X.K C bmB newId = true) (hm : X.mg x = some (.ref C)) (hg : Gl X x) (hc : X.calm = true) (hx : X.ex = []) (R : Rz X E) (ha : PA X (e0 :: rest) ta)
    (he : starEach (e0 :: rest) X.env = (false, eval e0 X.env) :: starEach rest X.env := by rfl) (hplain : (backTo cpos (starEach rest X.env)).any (·.1) = false := by rfl) (hd : (x == ("__debug__" : Str)) = false := by decide) :
    PS X (.Raise (some (.Call (.Name x np) (e0 :: rest) [] cpos)) none pos) (tRaise (.ref C) E ta) := by
  intro pins s σ H D I h
  obtain ⟨bm, N, nm, qn, bs, hdct, sn, sub, ab, col, dd, k0, k1, k2, k3, k5, mN, hC, hN, hni, T⟩ := exc_obj I.ok.mod.kin q
  refine wpAny_Raise_call_subT (k5 := k5) (k3 := k3) (k2 := k2) (k1 := k1) (k0 := k0) (dd := dd) (col := col) (ab := ab) (sub := sub) (sn := sn) (hdct := hdct) (bs := bs) (q := qn) (nm := nm)
    (C := C) (N := N) (bm := bm) (mN := mN) FB (T.hasType FB.hasBase) (I.ok.hd hc) (by rw [he]; show (false || (backTo cpos (starEach rest X.env)).any (·.1)) = false; rw [hplain]; rfl) hni (ld_glob I hg hm ⟨rfl, ?_⟩ hd)
  have h2 := ha cpos pins s σ H _ I h
  rw [he] at h2 ⊢
  refine Calls.evalArgs_plain (thn h2 fun us s1 ⟨vs, H1, I1, r, hl, hE⟩ => ⟨rfl, by rw [← r.length]; exact hl, I1.bk _ _ hC, hN.keeps I1.bk, T.keeps I1.bk, fun h' e mk => ?_⟩)
  obtain ⟨t, ht, _, _⟩ := mk.there
  have I2 : Inv X pins σ H1 { s1 with heap := h' } := I1.kept (t' := s1.toks) mk.keeps
  exact R pins σ H1 _ e (.ref C) none none (.inl rfl) I2 (I1.xfp hx mk.new) ⟨_, _, ht, rfl, rfl, rfl, rfl⟩ hE
end

/-! ### try: .. except C as n: .. -/
/-- the exception as the handler knows it -/
def XO (C : Addr) (dx : Option Addr) (e : Addr) : HO := .ext fun h => ∃ oe vs, h.get? e = some oe ∧ oe.cls = .ref C ∧ oe.dict = dx ∧ oe.data = .fields vs
/-- the context within the handler -/
def cxHand (X : Cx) (e : Addr) : Cx := { X with A := X.A.mark (some (.ref e)), calm := false, xe := fun _ _ => False }
/-- the context of the tried suite -/
def cxTry (X : Cx) (pins : List (Addr × Obj)) (xe : Value → Shared → Prop) : Cx := { X with pn := X.pn ++ pins, xe := xe }
section
variable {X : Cx} {pins : List (Addr × Obj)} {σ : St} {H : Hp} {s : Shared}
theorem Inv.toTry (I : Inv X pins σ H s) (xe : Value → Shared → Prop) : Inv (cxTry X pins xe) [] σ H s :=
  ⟨⟨I.ok.mod, I.ok.kind, I.ok.glob, I.ok.blt, I.ok.above, I.ok.inj, I.ok.has, I.ok.cab, I.ok.hd, I.ok.frames, I.ok.stk, I.ok.exf, I.ok.bs, I.ok.bsz, I.ok.noex, I.ok.exfs, I.ok.funs, I.ok.frf⟩, I.os, I.bare, I.base, I.loc, I.cell, I.free, I.freeC,
    fun p hp => I.pin p (by rw [List.append_nil] at hp; exact hp), I.hok, I.len⟩
theorem Inv.ofTry {xe : Value → Shared → Prop} {pins' : List (Addr × Obj)} (I : Inv (cxTry X pins xe) pins' σ H s) : Inv X pins σ H s :=
  ⟨⟨I.ok.mod, I.ok.kind, I.ok.glob, I.ok.blt, I.ok.above, I.ok.inj, I.ok.has, I.ok.cab, I.ok.hd, I.ok.frames, I.ok.stk, I.ok.exf, I.ok.bs, I.ok.bsz, I.ok.noex, I.ok.exfs, I.ok.funs, I.ok.frf⟩, I.os, I.bare, I.base, I.loc, I.cell, I.free, I.freeC,
    fun p hp => I.pin p (List.mem_append_left _ hp), I.hok, I.len⟩
theorem Inv.toHand (I : Inv X pins σ H s) (e : Addr) : Inv (cxHand X e) pins σ H s :=
  ⟨⟨I.ok.mod, I.ok.kind, I.ok.glob, I.ok.blt, I.ok.above, I.ok.inj, I.ok.has, I.ok.cab, fun z => (by cases z), I.ok.frames, I.ok.stk, I.ok.exf, I.ok.bs, I.ok.bsz, I.ok.noex, I.ok.exfs, I.ok.funs, I.ok.frf⟩, I.os, I.bare, I.base, I.loc, I.cell, I.free, I.freeC,
    I.pin, I.hok, I.len⟩
theorem Inv.ofHand {e : Addr} (I : Inv (cxHand X e) pins σ H s) (hd : X.calm = true → X.A.handled = none) : Inv X pins σ H s :=
  ⟨⟨I.ok.mod, I.ok.kind, I.ok.glob, I.ok.blt, I.ok.above, I.ok.inj, I.ok.has, I.ok.cab, hd, I.ok.frames, I.ok.stk, I.ok.exf, I.ok.bs, I.ok.bsz, I.ok.noex, I.ok.exfs, I.ok.funs, I.ok.frf⟩, I.os, I.bare, I.base, I.loc, I.cell, I.free, I.freeC,
    I.pin, I.hok, I.len⟩
/-- an exception is tracked -/
theorem Inv.track {e C : Addr} {dx : Option Addr} {lo : Addr → Prop} {fl : Option Value} (I : Inv X pins σ H s) (hx : X.ex = []) (fe : XFp X pins H e) (x : XObj s.heap e (.ref C) dx lo fl) : Inv X pins σ (upd H e (XO C dx e)) s := by
  obtain ⟨f1, f2, f3, f4, f5, f6⟩ := fe
  obtain ⟨oe, vs, q, hc, hdx, hd⟩ := x.there
  have ne : ∀ b o, H b = some o → b ≠ e := fun b o r => ne_of_none r f1
  refine ⟨I.ok, I.os, I.bare, ⟨I.base.keep, I.base.slot, fun b o r n hh => ?_, I.base.there, fun b xs r => ?_, fun b o u r => ?_, fun b ps r => ?_⟩, I.loc, I.cell, ?_, fun y c r => ?_, fun p hp => ?_, fun a o r => ?_, I.len⟩
  · rw [upd_ne (fun z => by rw [z, f4] at r; cases r)]
    exact I.base.free b o r n hh
  · have r2 := I.base.tups b xs r
    rw [upd_ne (ne b _ r2)]; exact r2
  · have r2 := I.base.frzs b o u r
    rw [upd_ne (ne b _ r2)]; exact r2
  · obtain ⟨m, r2⟩ := I.base.tbls b ps r
    exact ⟨m, by rw [upd_ne (ne b _ r2)]; exact r2⟩
  · rw [upd_ne (Ne.symm f2)]; exact I.free
  · rw [upd_ne (f5 y c r)]; exact I.freeC y c r
  · obtain ⟨a1, a2, a3⟩ := I.pin p hp
    exact ⟨a1, by rw [upd_ne (f6 p hp)]; exact a2, a3⟩
  · by_cases ha : a = e
    · subst ha
      rw [upd_same] at r
      cases r
      exact ⟨⟨oe, vs, q, hc, hdx, hd⟩, ⟨oe, q⟩, fun h1 h2 ⟨o1, v1, p1, p2⟩ k => ⟨o1, v1, k _ p1, p2⟩⟩
    · rw [upd_ne ha] at r
      refine (I.hok a o r).stay (fun _ _ _ z => z) (fun b z => by rw [upd_ne (ne b _ z)]; exact z) fun b ys z => by rw [upd_ne (ne b _ z)]; exact z
end

section
variable {M : Model} {A : Around} {Er : Value → Shared → Prop} {s : Shared} {K : PySem.W.Frag} {e C D : Addr}
/-- does the exception match an own class? -/
theorem matches_own {oe : Obj} {b : Bool} {Q : Bool → Shared → Prop} (X : K.In s.heap) (he : s.heap.get? e = some oe) (hc : oe.cls = .ref C) (hD : (PySem.W.clsIn K D).isSome = true) (hty : PySem.W.typeIn K (.ref D) = some (.type "type"))
    (hB : PySem.W.subIn K (.ref D) (.type "BaseException") = some true) (hs : PySem.W.subIn K (.ref C) (.ref D) = some b) (hq : Q b s) : wpAny M A (excMatches (.ref e) (.ref D)) Q Er s := by
  obtain ⟨hh, g, d, t, os⟩ := s
  have L1 : PySem.W.Looks M hh (typeOf (.ref D)) (.type "type") := PySem.W.looks_typeIn X hty
  have L2 : PySem.W.Looks M hh (isSubtype (.ref D) (.type "BaseException")) true := PySem.W.looks_subIn X hB
  have L3 : PySem.W.Looks M hh (isSubtype (.ref C) (.ref D)) b := PySem.W.looks_subIn X hs
  have L4 : PySem.W.Looks M hh (isType (.ref D)) true := by
    unfold PySem.W.clsIn at hD
    split at hD
    · rename_i c' d' cd' sl' ho
      intro A' Q' E' s' k q
      unfold isType loadHead
      exact wpAny_bind (wpAny_loadPart (k _ _ (X _ _ ho)) (wpAny_pure q))
    · cases hD
  have f := tc_notTuple
  unfold excMatches isExcClass isInstance
  refine wpAny_bind (wpAny_bind (L1.at ?_))
  refine wpAny_of_eq f ?_
  rw [if_neg (by decide)]
  refine wpAny_bind (wpAny_pure ?_)
  simp only [List.forIn_cons, List.forIn_nil]
  refine wpAny_bind (wpAny_bind (wpAny_bind (wpAny_bind (L4.at ?_))))
  rw [if_pos rfl]
  refine L2.at ?_
  simp only [Bool.not_true, Bool.false_eq_true, if_false]
  refine wpAny_pure (wpAny_pure ?_)
  have L0 : PySem.W.Looks M hh (typeOf (.ref e)) (.ref C) := by
    intro A' Q' E' s' k q
    unfold typeOf
    refine wpAny_bind (wpAny_loadPart (k _ _ he) ?_)
    rw [hc]
    exact wpAny_pure q
  refine wpAny_bind (L0.at ?_)
  refine wpAny_bind (wpAny_bind (wpAny_bind (L3.at ?_)))
  cases b with
  | true => exact wpAny_pure (wpAny_pure (wpAny_pure hq))
  | false => exact wpAny_pure (wpAny_pure (wpAny_pure hq))
end
end L2
set_option Elab.async false
set_option linter.all false
set_option maxRecDepth 100000
set_option maxHeartbeats 4000000
namespace L2
open PySem PySem.Spec PyProof.Rows
section
variable {X : Cx} {pins : List (Addr × Obj)} {σ : St} {H : Hp} {s : Shared}
/-- the handler's name is let go -/
theorem Inv.gone {i : Nat} {n : Str} {m : Str → Option Value} {v : Option Value} {h' : Heap} {t : Nat} (I : Inv X pins σ H s) (hN : X.N.Nodup) (hi : X.N[i]? = some n)
    (hm : ∀ (j : Nat) (x : Str) (u : V), X.N[j]? = some x → σ[j]? = some (some u) → Vis X.env.scope x → ∃ w', RelV u w' ∧ Look X.env s.heap m x w')
    (hn : h'.Ns X.env.locals (fun x => if x = n then v else m x)) (sb : Heap.SameBut X.env.locals s.heap h') : Inv X pins (σ.set i none) H { s with heap := h', toks := t } := by
  have neL : ∀ b o, X.s₀.heap.get? b = some o → b ≠ X.env.locals := fun b o q => Nat.ne_of_lt (Nat.lt_of_lt_of_le (Heap.lt_size q) I.ok.above)
  have cl : ∀ x c, X.env.cells.lookup x = some c → ∀ w', s.heap.IsCell c w' → h'.IsCell c w' := fun x c q w' ⟨o, ho, hd⟩ => ⟨o, (sb.2 c (I.cne x c q)).trans ho, hd⟩
  have trk : ∀ b o, H b = some o → b ≠ X.env.locals := fun b o q => ne_of_none q I.free
  refine ⟨I.ok, I.os, I.bare, ⟨fun b o q nn hb hx => (sb.2 b (neL b o q)).trans (I.base.keep b o q nn hb hx), fun b o q nn hb hx => ?_, I.base.free, fun b o q hx => ?_, I.base.tups, I.base.frzs, I.base.tbls⟩, ⟨_, hn, fun j x u e1 e2 e3 => ?_⟩, fun x c q => ?_, I.free, I.freeC, fun p hp => ?_, fun a o q => ?_, ?_⟩
  · obtain ⟨sl, r⟩ := I.base.slot b o q nn hb hx
    exact ⟨sl, (sb.2 b (neL b o q)).trans r⟩
  · obtain ⟨o', r⟩ := I.base.there b o q hx
    exact ⟨o', (sb.2 b (neL b o q)).trans r⟩
  · have hji : j ≠ i := by
      rintro rfl
      by_cases hlt : j < σ.length
      · rw [List.getElem?_set_self hlt] at e2
        cases e2
      · rw [List.getElem?_eq_none (by rw [List.length_set]; omega)] at e2
        cases e2
    rw [List.getElem?_set_ne (Ne.symm hji)] at e2
    obtain ⟨w', r, l⟩ := hm j x u e1 e2 e3
    refine ⟨w', r, ?_⟩
    have hxn : x ≠ n := fun z => hji (nodup_ix hN e1 (by rw [z]; exact hi))
    rcases l with ⟨k, q⟩ | ⟨k, c, hc, z⟩
    · exact .inl ⟨k, by show (if x = n then v else m x) = some w'; rw [if_neg hxn]; exact q⟩
    · exact .inr ⟨k, c, hc, cl x c hc _ z⟩
  · obtain ⟨w', z⟩ := I.cell x c q
    exact ⟨w', cl x c q w' z⟩
  · obtain ⟨q, nn, n1, r⟩ := I.pin p hp
    exact ⟨(sb.2 p.1 n1).trans q, nn, n1, r⟩
  · refine (I.hok a o q).stay (fun b u hb r => ?_) (fun _ z => z) fun _ _ z => z
    rcases hb with rfl | hb
    · exact (sb.2 b (trk b o q)).trans r
    · exact (sb.2 b (trk b _ hb)).trans r
  · show (σ.set i none).length = X.N.length
    rw [List.length_set]
    exact I.len
theorem name_gone {M : Model} {A : Around} {E : Value → Shared → Prop} {i : Nat} {n : Str} {pos : Pos} {Q : Unit → Shared → Prop} (I : Inv X pins σ H s) (hN : X.N.Nodup) (hi : X.N[i]? = some n) (hl : X.env.kindOf n = some .local)
    (h : ∀ s', Inv X pins (σ.set i none) H s' → Q () s') : wpAny M A (do bindName X.env n .none; unbindBehindTheSuite X.env n pos) Q E s := by
  obtain ⟨m, hn, hm⟩ := I.loc
  exact wpAny_nameGoes_keeps hl hn (by rw [I.ok.kind]; rfl) fun h' v hn' sb => h _ (I.gone hN hi hm hn' sb)
end

/-- what the handler is to reach: its name is let go behind it -/
def endH (D : Ends) (i : Nat) : Ends := { nx := fun σ H => D.nx (σ.set i none) H, rt := D.rt, bk := fun σ H => D.bk (σ.set i none) H, ct := fun σ H => D.ct (σ.set i none) H }
def tTry (K : PySem.W.Frag) (i : Nat) (Dc : Addr) (tb : (St → XK) → TS) (th : TS) : TS := fun D σ H =>
  tb (fun σ1 cls dx H1 => ∃ C, cls = .ref C ∧ PySem.W.subIn K (.ref C) (.ref Dc) = some true ∧ ∀ e, H1 e = none → th (endH D i) (σ1.set i (some (.ref e))) (upd H1 e (XO C dx e))) D σ H
/-- what of the text a class must have to be named by an except -/
structure XHd (K : PySem.W.Frag) (D : Addr) : Prop where
  cl : (PySem.W.clsIn K D).isSome = true
  ty : PySem.W.typeIn K (.ref D) = some (.type "type")
  bs : PySem.W.subIn K (.ref D) (.type "BaseException") = some true
section
variable {X : Cx} {body suite : List Stmt} {b0 : Stmt} {n cn : Str} {i : Nat} {Dc : Addr} {tb : (St → XK) → TS} {th : TS} {cp hpos pos : Pos}
theorem ps_try (hc : X.calm = true) (hx : X.ex = []) (hst : X.stack = X.env :: X.outer) (hfm : X.env.frame = some X.env.locals) (hN : X.N.Nodup) (hi : X.N[i]? = some n) (hl : X.env.kindOf n = some .local) (hg : Gl X cn) (hm : X.mg cn = some (.ref Dc)) (hD : XHd X.K Dc)
    (hb : ∀ (pn : List (Addr × Obj)) (xe : Value → Shared → Prop) (E : St → XK), PassesOwn (model X.prog X.w) X.A X.env xe → Rz { X with pn := pn, xe := xe } E → PSs { X with pn := pn, xe := xe } body (tb E))
    (hh : ∀ e, PSs (cxHand X e) (b0 :: suite) th) (hd : (cn == ("__debug__" : Str)) = false := by decide) :
    PS X (.Try body [.ExceptHandler (some (.Name cn cp)) (some n) (b0 :: suite) hpos] [] [] pos) (tTry X.K i Dc tb th) := by
  intro pins s σ H D I h
  refine wpAny_Try_except ?_
  refine wpAny_mono (hb (X.pn ++ pins) (fun e s₁ => wpAny (model X.prog X.w) X.A (noteFrame e X.env) (fun _ s₂ => wpAny (model X.prog X.w) X.A (setFlight e none) (fun _ s₃ => wpAny (model X.prog X.w) X.A (handleBy e X.env [.ExceptHandler (some (.Name cn cp)) (some n) (b0 :: suite) hpos]) (SP X pins D) X.xe s₃) X.xe s₂) X.xe s₁) _
    PassesOwn.looking ?_ [] s σ H D (I.toTry _) h) (fun f s1 q => ?_) fun _ _ q => q
  · -- an exception comes up
    intro pins' σ1 H1 s1 e cls dx fl hfl I1 fe x hE
    obtain ⟨C, rfl, hsub, hth⟩ := hE
    have lo1 : ∀ b, (b = e ∨ (XFp (cxTry X pins X.xe) pins' H1 b ∨ s1.heap.get? b = none)) → XFp (cxTry X pins X.xe) pins' H1 b ∨ s1.heap.get? b = none := fun b z => z.elim (fun z => .inl (by rw [z]; exact fe)) fun z => z
    have hfr : X.A.frames = some (X.env :: X.outer) := by rw [← hst]; exact I.ok.frames
    have hff : s1.heap.FunFrames X.base (X.env :: X.outer) := by rw [← hst]; exact I1.stack
    refine xnote (base := X.base) (lo := fun T => XFp (cxTry X pins X.xe) pins' H1 T ∨ s1.heap.get? T = none) hfl hfr hff hfm (x.imp fun T _ z => .inl z) (fun T z => .inr z) fun h1 n1 x1 => ?_
    refine xland (fr := frs (X.env :: X.outer)) x1 fun h2 n2 x2 => ?_
    have n12 : Noted (frs X.stack) e (fun T => XFp (cxTry X pins X.xe) pins' H1 T ∨ s1.heap.get? T = none) s1.heap h2 := by rw [hst]; exact n1.trans n2
    have I2 : Inv X pins σ1 H1 { s1 with heap := h2 } := (I1.noted n12 lo1).ofTry
    refine wpAny_handleBy_cons (codeAny_handlers_test (ld_glob (I2.toHand e) hg hm ?_ hd)) (by intro z; cases z)
    obtain ⟨oe, vs, q1, q2, q3, q4⟩ := x2.there
    refine matches_own (K := X.K) I2.kIn q1 q2 hD.cl hD.ty hD.bs hsub ?_
    rw [if_pos rfl]
    refine codeAny_handlers_suite_as ?_
    refine xland (fr := frs (X.env :: X.outer)) x2 fun h3 n3 x3 => ?_
    have n13 : Noted (frs X.stack) e (fun T => XFp (cxTry X pins X.xe) pins' H1 T ∨ s1.heap.get? T = none) s1.heap h3 := by rw [hst]; exact (n1.trans n2).trans n3
    have I3 : Inv X pins σ1 H1 { s1 with heap := h3 } := (I1.noted n13 lo1).ofTry
    have feX : XFp X pins H1 e := ⟨fe.1, fe.2.1, fe.2.2.1, fe.2.2.2.1, fe.2.2.2.2.1, fun p hp => fe.2.2.2.2.2 p (List.mem_append_left _ hp)⟩
    have I4 : Inv X pins σ1 (upd H1 e (XO C dx e)) { s1 with heap := h3 } := I3.track hx feX x3
    refine store_ok (X := cxHand X e) (I4.toHand e) hN hi (.inl hl) (v := .ref e) rfl (fun s5 I5 => ?_) (.inr hl)
    refine wpAny_mono (hh e pins s5 _ _ (endH D i) I5 (hth e fe.1)) (fun f s6 q6 => ?_) fun _ _ z => z.elim
    cases f with
    | next =>
      obtain ⟨σ6, H6, J6, r6⟩ := q6
      exact name_gone (J6.ofHand I.ok.hd) hN hi hl fun s7 J7 => ⟨_, H6, J7, r6⟩
    | brk =>
      obtain ⟨σ6, H6, J6, r6⟩ := q6
      exact name_gone (J6.ofHand I.ok.hd) hN hi hl fun s7 J7 => ⟨_, H6, J7, r6⟩
    | cont =>
      obtain ⟨σ6, H6, J6, r6⟩ := q6
      exact name_gone (J6.ofHand I.ok.hd) hN hi hl fun s7 J7 => ⟨_, H6, J7, r6⟩
    | ret u =>
      obtain ⟨v6, σ6, H6, J6, rv, r6⟩ := q6
      exact name_gone (J6.ofHand I.ok.hd) hN hi hl fun s7 J7 => ⟨v6, _, H6, J7, rv, r6⟩
  · cases f with
    | next => obtain ⟨σ1, H1, J, r⟩ := q; exact wpAny_execs_nil ⟨σ1, H1, J.ofTry, r⟩
    | brk => obtain ⟨σ1, H1, J, r⟩ := q; exact ⟨σ1, H1, J.ofTry, r⟩
    | cont => obtain ⟨σ1, H1, J, r⟩ := q; exact ⟨σ1, H1, J.ofTry, r⟩
    | ret u => obtain ⟨v, σ1, H1, J, rv, r⟩ := q; exact ⟨v, σ1, H1, J.ofTry, rv, r⟩
end

/-! ### isinstance of a caught exception -/
section
variable {X : Cx} {K : PySem.W.Frag}
theorem notCls_fields {o : Obj} {vs : Array Value} (h : o.data = .fields vs) : PySem.W.notCls o = true := by
  obtain ⟨c, d, dt, sl⟩ := o
  simp only at h
  subst h
  rfl
theorem xo_inst {C e : Addr} {P : Program} {w : World} {H : Hp} {h : Heap} (x : ObjOk P w H h e (XO C none e)) : ∃ ox odo, PySem.W.InstAt h e ox C odo := by
  obtain ⟨⟨oe, vs, q, hc, hd, hf⟩, _⟩ := x
  exact ⟨oe, none, ⟨q, hc, notCls_fields hf, by rw [hd]; trivial⟩⟩
theorem call_isX {c : Value} {cv : V} (hk : X.K = K) (rc : ∀ u, RelV cv u → u = c) : CallR X (.builtin "isinstance") (fun xs H Q => ∃ (e C : Addr) (b : Bool), xs = [.ref e, cv] ∧ H e = some (XO C none e) ∧ PySem.W.XCls K C ∧ PySem.W.kitOne K (.ref C) c = some b ∧ Q (.bl b) H) := by
  subst hk
  intro pins s σ H xs us Q I r h
  obtain ⟨e, C, b, rfl, he, xc, hb, q⟩ := h
  obtain ⟨u, w', rfl, r1, r2⟩ := vals2 r
  cases (show u = Value.ref e from r1)
  have := rc _ r2
  subst this
  exact PySem.W.kia_one (PySem.W.kitx_exc xc) I.kIn (xo_inst (I.hok e _ he)) hb (by intro z; cases z) fun tk => ⟨.bl b, H, I.tok _, rfl, q⟩
end
end L2
set_option Elab.async false
set_option linter.all false
set_option maxRecDepth 100000
set_option maxHeartbeats 4000000
namespace L2
open PySem PySem.Spec PyProof.Rows
section
variable {X : Cx} {K : PySem.W.Frag}
end
/-- an exception's class against another one -/
structure XPair (K : PySem.W.Frag) (C D : Addr) (b : Bool) : Prop where
  ne : (Value.ref C == Value.ref D) = false
  sub : PySem.W.subIn K (.ref C) (.ref D) = some b
theorem kit_same {K : PySem.W.Frag} {C : Addr} : PySem.W.kitOne K (.ref C) (.ref C) = some true := by
  unfold PySem.W.kitOne
  rw [if_pos (by simp)]
end L2
namespace L2
open PySem
/-- a class of the text's that is raised; another one beside it -/
structure Xr (K : PySem.W.Frag) (mg : Str → Option Value) (C : Addr) (nm : Str) : Prop where
  bd : mg nm = some (.ref C)
  hd : XHd K C
  xc : PySem.W.XCls K C
  ex : PySem.W.excIn K C [.type "ValueError", .type "Exception", .type "BaseException", .type "object"] "ValueError.__new__" = true
  ve : PySem.W.subIn K (.ref C) (.type "ValueError") = some true
structure Xo (K : PySem.W.Frag) (mg : Str → Option Value) (C D : Addr) (nm : Str) (b : Bool) : Prop where
  bd : mg nm = some (.ref D)
  hd : XHd K D
  pr : XPair K C D b
end L2
set_option Elab.async false
set_option linter.all false
set_option maxRecDepth 100000
set_option maxHeartbeats 4000000
namespace L2
open PySem PySem.Spec PyProof.Rows

/-! ### several objects of an iterator turn -/
section
variable {X : Cx} {pins : List (Addr × Obj)} {σ : St} {H : Hp} {s : Shared} {h' : Heap}
theorem Inv.turnedL {t' : Nat} {fp : List Addr} (I : Inv X pins σ H s) (hf : ∀ b ∈ fp, FpOk X pins H b) (k : ∀ b o, b ∉ fp → s.heap.get? b = some o → h'.get? b = some o) : Inv X pins σ H { s with heap := h', toks := t' } := by
  have nit : ∀ b u, H b = some u → b ∉ fp := fun b u e z => by rw [(hf b z).1] at e; cases e
  refine I.step (g' := s.gens) (d' := s.drawn) (ch := fp) (fun b hb => ?_) (fun b o _ _ hc e _ => k b o hc e) (fun b o _ _ hc e _ => ⟨o.slots, k b o hc e⟩) (fun _ _ _ _ n => n)
    (fun b o hc e => ⟨o, k b o hc e⟩) (fun _ _ e => e) (fun _ _ _ e => e) (fun b ps e => ⟨#[], by rw [e]; simp⟩) (fun m hm => ?_) (fun b u e => ?_) I.bare
  · obtain ⟨f0, f1, f2, f3, f4, f5⟩ := hf b hb
    exact ⟨f3, f1, f4, f5⟩
  · obtain ⟨o, es, ep, ho, r⟩ := hm
    exact ⟨o, es, ep, k _ o (fun z => (hf _ z).2.1 rfl) ho, r⟩
  · refine (I.hok b u e).stay (fun c v hc q => k c v ?_ q) (fun _ q => q) fun _ _ q => q
    rcases hc with z | z
    · rw [z]; exact nit b u e
    · exact nit c _ z
theorem FpOk.upd {b p : Addr} {o : HO} (h : FpOk X pins H b) (n : b ≠ p) : FpOk X pins (upd H p o) b := by
  obtain ⟨f0, r⟩ := h
  exact ⟨by rw [upd_ne n]; exact f0, r⟩
theorem get_push {h : Heap} {o u : Obj} {b : Addr} (ho : o.isFreed = false) (e : (h.push o).get? b = some u) : (b = h.objs.size ∧ u = o) ∨ h.get? b = some u := by
  by_cases hb : b = h.objs.size
  · subst hb
    rw [Heap.get?_push_size _ ho] at e
    exact .inl ⟨rfl, (Option.some.inj e).symm⟩
  · refine .inr ?_
    have lt := Heap.lt_size e
    have lt2 : b < h.objs.size := by
      have : (h.push o).objs.size = h.objs.size + 1 := by simp [Heap.push]
      rw [this] at lt
      exact Nat.lt_of_le_of_ne (Nat.le_of_lt_succ lt) hb
    have : (h.push o).get? b = h.get? b := by
      simp only [Heap.get?, Heap.push]
      rw [Array.getElem?_push_lt lt2, Array.getElem?_eq_getElem lt2]
    rw [← this]
    exact e
end

/-! ### enumerate -/
section
variable {X : Cx}
end

/-! ### zip of two lists -/
def Itz (K : PySem.W.Frag) (l1 l2 : Addr) : It :=
  ⟨fun i H => ∃ xs ys x y, SqL K H l1 xs ∧ SqL K H l2 ys ∧ xs[i]? = some x ∧ ys[i]? = some y,
   fun i H x H' => ∃ (p : Addr) (y z : V), x = .ref p ∧ H p = none ∧ (∀ xs, SqL K H l1 xs → xs[i]? = some y) ∧ (∀ ys, SqL K H l2 ys → ys[i]? = some z) ∧ H' = upd H p (.tup [y, z]),
   fun i H => ∃ xs ys, SqL K H l1 xs ∧ SqL K H l2 ys ∧ (xs.length ≤ i ∨ ys.length ≤ i)⟩
theorem turn_zip {P : Program} {w : World} {K : PySem.W.Frag} {elts : List Expr} {x1 : Nat} {pos : Pos} (z TI TO i1 i2 l1 l2 : Addr) (ap : ZipApart z TI TO i1 i2 l1 l2) : Turn P w K (.Tuple elts x1 pos) (Itz K l1 l2) [z, TI, TO, i1, i2] z
    (fun i h => IsZip h z TI TO .none ∧ IsPair h TI (.ref i1) (.ref i2) ∧ (∃ a b, IsPair h TO a b) ∧ h.IsListIter i1 l1 i ∧ h.IsListIter i2 l2 i) where
  mem := by simp
  obj := fun i h st b hb => by
    obtain ⟨hz, hTI, ⟨a, c, hTO⟩, ⟨o1, h1, c1, d1⟩, ⟨o2, h2, c2, d2⟩⟩ := st
    have hb' : b = z ∨ b = TI ∨ b = TO ∨ b = i1 ∨ b = i2 := by simpa using hb
    rcases hb' with rfl | rfl | rfl | rfl | rfl
    · exact ⟨_, hz, fun v z => by cases z⟩
    · exact ⟨_, hTI, fun v z => by cases z⟩
    · exact ⟨_, hTO, fun v z => by cases z⟩
    · exact ⟨_, h1, fun v z => by rw [d1] at z; cases z⟩
    · exact ⟨_, h2, fun v z => by rw [d2] at z; cases z⟩
  keep := fun i h h' st k => by
    obtain ⟨hz, hTI, ⟨a, c, hTO⟩, ⟨o1, h1, c1, d1⟩, ⟨o2, h2, c2, d2⟩⟩ := st
    exact ⟨k z (by simp) _ hz, k TI (by simp) _ hTI, ⟨a, c, k TO (by simp) _ hTO⟩, ⟨o1, k i1 (by simp) _ h1, c1, d1⟩, ⟨o2, k i2 (by simp) _ h2, c2, d2⟩⟩
  item := by
    intro X hP hw hK hc i pins s σ H E I hf st hg
    subst hP hw hK
    obtain ⟨xs, ys, x, y, hq1, hq2, hx, hy⟩ := hg
    obtain ⟨its1, rv1, p1, hz1⟩ := I.list hq1
    obtain ⟨its2, rv2, p2, hz2⟩ := I.list hq2
    obtain ⟨u1, hu1, ru1⟩ := rv1.get hx
    obtain ⟨u2, hu2, ru2⟩ := rv2.get hy
    obtain ⟨hz, hTI, ⟨a, c, hTO⟩, hi1, hi2⟩ := st
    have zlt := Heap.lt_size hz
    have TIlt := Heap.lt_size hTI
    have TOlt := Heap.lt_size hTO
    have i1lt : i1 < s.heap.objs.size := by obtain ⟨o, ho, _⟩ := id hi1; exact Heap.lt_size ho
    have i2lt : i2 < s.heap.objs.size := by obtain ⟨o, ho, _⟩ := id hi2; exact Heap.lt_size ho
    refine wpAny_pyNext_zip_item ap hz hTI hTO hi1 hi2 p1.isList p2.isList (x := u1) (y := u2) (by simpa using hu1) (by simpa using hu2) fun h' hz' hTO' hi1' hi2' hnew hsz hk => ?_
    refine ⟨_, rfl, ?_⟩
    refine wpAny_letOwnedTupleGo_zip hz' fun h2 hz2' sb => ?_
    have hfr : H s.heap.objs.size = none := I.hok.fresh (Nat.le_refl _)
    have I0 : Inv X pins σ (upd H s.heap.objs.size (.tup [x, y])) { s with heap := s.heap.push { cls := .type "tuple", data := .seq #[u1, u2] } } :=
      I.laid (t' := s.toks) (fun b u e => Heap.get?_push_of_some _ e) (Nat.le_refl _) ⟨by show 2 ≤ sizeLine; decide, [u1, u2], .cons ru1 (.cons ru2 .nil), ⟨_, Heap.get?_push_size _ rfl, rfl, _, rfl⟩⟩
    have hf0 : ∀ b ∈ [z, TI, TO, i1, i2], FpOk X pins (upd H s.heap.objs.size (.tup [x, y])) b := fun b hb => by
      refine (hf b hb).upd ?_
      have hb' : b = z ∨ b = TI ∨ b = TO ∨ b = i1 ∨ b = i2 := by simpa using hb
      rcases hb' with rfl | rfl | rfl | rfl | rfl
      · exact Nat.ne_of_lt zlt
      · exact Nat.ne_of_lt TIlt
      · exact Nat.ne_of_lt TOlt
      · exact Nat.ne_of_lt i1lt
      · exact Nat.ne_of_lt i2lt
    have I1 := I0.turnedL (h' := h2) (t' := s.toks) hf0 (fun b o hb eb => by
      have b1 : b ≠ z := fun e => hb (by simp [e])
      have b2 : b ≠ TO := fun e => hb (by simp [e])
      have b3 : b ≠ i1 := fun e => hb (by simp [e])
      have b4 : b ≠ i2 := fun e => hb (by simp [e])
      rw [sb.2 b b1]
      rcases get_push rfl eb with ⟨rfl, rfl⟩ | eb
      · exact hnew
      · exact hk b o b1 b2 b3 b4 eb)
    refine ⟨.ref s.heap.objs.size, _, I1, rfl, ⟨s.heap.objs.size, x, y, rfl, hfr, fun ys hy => by rw [I.list_inj hy hq1]; exact hx, fun ys' hy' => by rw [I.list_inj hy' hq2]; exact hy, rfl⟩, ?_, fun b hb => (hf0 b hb).1⟩
    obtain ⟨o1, ho1, c1, d1⟩ := hi1'
    obtain ⟨o2, ho2, c2, d2⟩ := hi2'
    exact ⟨hz2', (sb.2 TI ap.TIz).trans (hk TI _ ap.TIz ap.TITO ap.TIi1 ap.TIi2 hTI), ⟨_, _, (sb.2 TO ap.TOz).trans hTO'⟩, ⟨o1, (sb.2 i1 ap.i1z).trans ho1, c1, d1⟩, ⟨o2, (sb.2 i2 ap.i2z).trans ho2, c2, d2⟩⟩
  done := by
    intro X hP hw hK hc i pins s σ H E I hf st hg
    subst hP hw hK
    obtain ⟨xs, ys, hq1, hq2, hx⟩ := hg
    obtain ⟨its1, rv1, p1, hz1⟩ := I.list hq1
    obtain ⟨its2, rv2, p2, hz2⟩ := I.list hq2
    obtain ⟨hz, hTI, ⟨a, c, hTO⟩, hi1, hi2⟩ := st
    have hl1 := rv1.length
    have hl2 := rv2.length
    refine wpAny_pyNext_zip_end (I.ok.hd hc) ap hz hTI hTO hi1 hi2 p1.isList p2.isList ?_ fun h' eb => ⟨rfl, I.turnedL (t' := s.toks) hf (fun b o hb e => eb b o (fun z => hb (by simp [z])) (fun z => hb (by simp [z])) (fun z => hb (by simp [z])) (fun z => hb (by simp [z])) e)⟩
    rcases hx with hx | hx
    · exact .inl (by simp; omega)
    · exact .inr (by simp; omega)
  self := fun _ _ _ _ _ st h => wpAny_pyIter_zip st.1 h
section
variable {X : Cx}
end
end L2
set_option Elab.async false
set_option linter.all false
set_option maxRecDepth 100000
set_option maxHeartbeats 4000000
namespace L2
open PySem PySem.Spec PyProof.Rows
section
variable {K : PySem.W.Frag} {a l1 l2 D : Addr} {xs ys : List V} {g : TG} {tc : TT} {te : TE} {Q : VK} {σ0 : St} {H1 : Hp}
theorem comp_zip {n : Nat} (hn1 : xs.length = n) (hn2 : ys.length = n) (Pv : Nat → St → Hp → Prop) (h0 : Pv 0 σ0 (upd H1 D (.lst []))) (hl : ∀ i σ H, i ≤ n → Pv i σ H → SqL K H l1 xs ∧ SqL K H l2 ys)
    (hs : ∀ i x y σ H p, xs[i]? = some x → ys[i]? = some y → Pv i σ H → H p = none → g (.ref p) σ (upd H p (.tup [x, y])) fun σ2 H2 => tc σ2 H2 fun b H3 =>
      if b = true then te σ2 H3 fun y H4 => ∃ acc, H4 D = some (.lst acc) ∧ acc.length < sizeLine ∧ Pv (i + 1) σ2 (upd H4 D (.lst (acc ++ [y]))) else Pv (i + 1) σ2 H3)
    (hd : ∀ σ H, Pv n σ H → Q (.ref D) H) : CompW (Itz K l1 l2) g tc te Q D σ0 H1 := by
  refine ⟨fun i m σ H => m = n - i ∧ i ≤ n ∧ Pv i σ H, ⟨n, by simp, Nat.zero_le _, h0⟩, ?_⟩
  rintro i m σ H ⟨rfl, hi, p⟩
  obtain ⟨q1, q2⟩ := hl i σ H hi p
  by_cases hlt : i < n
  · refine .inr ⟨⟨xs, ys, xs[i], ys[i], q1, q2, by simp [hn1, hlt], by simp [hn2, hlt]⟩, Pv (i + 1), fun σ' H' p' => ⟨n - (i + 1), by omega, rfl, hlt, p'⟩, fun x H' y => ?_⟩
    obtain ⟨t, z, u, rfl, ht, hz, hu, rfl⟩ := y
    exact hs i z u σ _ t (hz xs q1) (hu ys q2) p ht
  · have e : i = n := by omega
    subst e
    exact .inl ⟨⟨xs, ys, q1, q2, .inl (by omega)⟩, hd σ H p⟩
end
section
variable {K : PySem.W.Frag} {a l1 l2 : Addr} {xs ys : List V} {g : TG} {tb : TS} {D : Ends} {σ : St} {H : Hp}
end
/-! ### list.insert, list.count, sum -/
section
variable {X : Cx}
theorem pe_bmK {K : PySem.W.Frag} {T name id : String} {r : V → List V → Hp → VK → Prop} {o e : Expr} {es : List Expr} {to : TE} {t : TA} {apos cpos : Pos} (h : X.K = K) (pa : PlainAttrs T) (slot : Slot T name id) (hty : typeOf (.builtin id) = pure (.type "method_descriptor")) (hm : MtR X id r) (ho : PE X o to) (ha : PA X (e :: es) t)
    (hbase : attributeBase o name X.env (eval o X.env) = eval o X.env := by rfl)
    (hfew : ((backTo cpos (starEach (e :: es) X.env)).all (fun x => !x.1) && (backToKw cpos (keywordEach [] X.env)).all (fun x => x.1.isSome)
      && decide ((e :: es).length + ([] : List Keyword).length + (if ([] : List Keyword).isEmpty then 0 else 1) < 30)) = true := by rfl)
    (hline : (apos.endLine == cpos.line) = true := by rfl) (hs : starEach (e :: es) X.env = (false, eval e X.env) :: starEach es X.env := by rfl) (hplain : (backTo cpos (starEach es X.env)).any (·.1) = false := by rfl) :
    PE X (.Call (.Attribute o name apos) (e :: es) [] cpos) (tBM K T r to t) := by
  subst h
  exact pe_bm pa slot hty hm ho ha hbase hfew hline hs hplain
theorem pg_tupK {K : PySem.W.Frag} {es : List Expr} {k : Nat} {t : TGs} {n : Nat} {pos : Pos} (hK : X.K = K) (hc : X.calm = true) (h : PGs X es t)
    (hn : (assignEach es X.env).length = n := by rfl) (hst : (assignEach es X.env).findIdx? (·.1) = none := by rfl) : PG X (.Tuple es k pos) (gTup K n t) := by subst hK; exact pg_tup hc h hn hst
end
end L2
set_option Elab.async false
set_option linter.all false
set_option maxRecDepth 100000
set_option maxHeartbeats 4000000
namespace L2
open PySem
/-! ### comprehensions whose block writes nothing that stood -/
section
variable {K : PySem.W.Frag} {a D : Addr} {xs : List V} {tc : TT} {te : TE} {Q : VK} {rest : St} {H1 : Hp}
theorem fm_succ {α : Type} (f : Nat → Option α) (n : Nat) : (List.range (n + 1)).filterMap f = (List.range n).filterMap f ++ (f n).toList := by
  rw [List.range_succ, List.filterMap_append]
  cases h : f n <;> simp [h]
theorem fm_len {α : Type} (f : Nat → Option α) (n : Nat) : ((List.range n).filterMap f).length ≤ n := by
  have := List.length_filterMap_le f (List.range n)
  simpa using this
theorem Same.newly {H H1 : Hp} {D : Addr} {o : HO} (h : Same H H1) (n : H D = none) : Same H (upd H1 D o) := fun b u e => by rw [upd_ne (ne_of_none e n)]; exact h b u e
/-- over a list: what is told of each item is known ahead -/
theorem comp_val (f : Nat → Option V) (hD : H1 D = none) (hq : SqL K H1 a xs) (hx : xs.length ≤ 100000)
    (hs : ∀ i x H (G : Hp → Prop) (F : VK), xs[i]? = some x → Same H1 H → (∀ H', Same H H' → f i = none → G H') → (∀ y H', Same H H' → f i = some y → F y H') → tc (some x :: rest) H fun b H3 => if b = true then te (some x :: rest) H3 F else G H3)
    (hd : ∀ H, Same H1 H → H D = some (.lst ((List.range xs.length).filterMap f)) → Q (.ref D) H) : CompW (Itl K a) (gName 0) tc te Q D (none :: rest) H1 := by
  refine comp_list (K := K) (xs := xs) (fun i σ H => (∃ v, σ = v :: rest) ∧ Same H1 H ∧ H D = some (.lst ((List.range i).filterMap f))) ⟨⟨none, rfl⟩, same_new hD, upd_same⟩ (fun i σ H _ ⟨_, sm, _⟩ => sm.sqL _ _ hq) ?_ (fun σ H ⟨_, sm, e⟩ => hd H sm e)
  rintro i x σ H hi ⟨⟨v, rfl⟩, sm, e⟩
  have hil : i < xs.length := (List.getElem?_eq_some_iff.mp hi).1
  refine hs i x H _ _ hi sm (fun H3 s3 ef => ⟨⟨_, rfl⟩, sm.trans s3, by rw [s3 _ _ e, fm_succ, ef]; simp⟩) (fun y H4 s4 ef => ?_)
  refine ⟨_, s4 _ _ e, ?_, ⟨_, rfl⟩, (sm.trans s4).newly hD, ?_⟩
  · have := fm_len f i
    rw [sizeLine_eq]; omega
  · rw [upd_same, fm_succ, ef]; rfl
theorem comp_valR {n : Nat} (f : Nat → Option V) (hD : H1 D = none) (hx : n ≤ 100000)
    (hs : ∀ i H (G : Hp → Prop) (F : VK), i < n → Same H1 H → (∀ H', Same H H' → f i = none → G H') → (∀ y H', Same H H' → f i = some y → F y H') → tc (some (.int (0 + i)) :: rest) H fun b H3 => if b = true then te (some (.int (0 + i)) :: rest) H3 F else G H3)
    (hd : ∀ H, Same H1 H → H D = some (.lst ((List.range n).filterMap f)) → Q (.ref D) H) : CompW (Itr 0 n) (gName 0) tc te Q D (none :: rest) H1 := by
  refine comp_range (lo := 0) (n := n) (fun i σ H => (∃ v, σ = v :: rest) ∧ Same H1 H ∧ H D = some (.lst ((List.range i).filterMap f))) ⟨⟨none, rfl⟩, same_new hD, upd_same⟩ ?_ (fun σ H ⟨_, sm, e⟩ => hd H sm e)
  rintro i σ H hi ⟨⟨v, rfl⟩, sm, e⟩
  refine hs i H _ _ hi sm (fun H3 s3 ef => ⟨⟨_, rfl⟩, sm.trans s3, by rw [s3 _ _ e, fm_succ, ef]; simp⟩) (fun y H4 s4 ef => ?_)
  refine ⟨_, s4 _ _ e, ?_, ⟨_, rfl⟩, (sm.trans s4).newly hD, ?_⟩
  · have := fm_len f i
    rw [sizeLine_eq]; omega
  · rw [upd_same, fm_succ, ef]; rfl
/-- two lists side by side -/
theorem comp_valZ {l1 l2 : Addr} {ys : List V} {n : Nat} (hn1 : xs.length = n) (hn2 : ys.length = n) (f : Nat → Option V) (hD : H1 D = none) (hq1 : SqL K H1 l1 xs) (hq2 : SqL K H1 l2 ys) (hx : n ≤ 100000)
    (hs : ∀ i x y H (G : Hp → Prop) (F : VK), xs[i]? = some x → ys[i]? = some y → Same H1 H → (∀ H', Same H H' → f i = none → G H') → (∀ y H', Same H H' → f i = some y → F y H') → tc (some x :: some y :: rest) H fun b H3 => if b = true then te (some x :: some y :: rest) H3 F else G H3)
    (hd : ∀ H, Same H1 H → H D = some (.lst ((List.range n).filterMap f)) → Q (.ref D) H) : CompW (Itz K l1 l2) (gTup K 2 (gCons (gName 0) (gCons (gName 1) gNil))) tc te Q D (none :: none :: rest) H1 := by
  refine comp_zip (K := K) (xs := xs) (ys := ys) hn1 hn2 (fun i σ H => (∃ u v, σ = u :: v :: rest) ∧ Same H1 H ∧ H D = some (.lst ((List.range i).filterMap f))) ⟨⟨none, none, rfl⟩, same_new hD, upd_same⟩ (fun i σ H _ ⟨_, sm, _⟩ => ⟨sm.sqL _ _ hq1, sm.sqL _ _ hq2⟩) ?_ (fun σ H ⟨_, sm, e⟩ => hd H sm e)
  rintro i x y σ H p hix hiy ⟨⟨u, v, rfl⟩, sm, e⟩ hp
  have sp := same_new (o := HO.tup [x, y]) hp
  refine ⟨p, [x, y], rfl, SqT.of upd_same, rfl, _, _, rfl, _, _, rfl, rfl, ?_⟩
  have hil : i < xs.length := (List.getElem?_eq_some_iff.mp hix).1
  refine hs i x y _ _ _ hix hiy (sm.trans sp) (fun H3 s3 ef => ⟨⟨_, _, rfl⟩, (sm.trans sp).trans s3, by rw [s3 _ _ (sp _ _ e), fm_succ, ef]; simp⟩) (fun y H4 s4 ef => ?_)
  refine ⟨_, s4 _ _ (sp _ _ e), ?_, ⟨_, _, rfl⟩, ((sm.trans sp).trans s4).newly hD, ?_⟩
  · have := fm_len f i
    rw [sizeLine_eq]; omega
  · rw [upd_same, fm_succ, ef]; rfl
theorem fm_congr {α β : Type} {f g : α → Option β} : ∀ (l : List α) (_ : True) (h : ∀ x ∈ l, f x = g x), l.filterMap f = l.filterMap g
  | [], _, _ => rfl
  | x :: l, _, h => by
    rw [List.filterMap_cons, List.filterMap_cons, h x (by simp), fm_congr l trivial fun y hy => h y (by simp [hy])]
theorem snocInd {α : Type} {P : List α → Prop} (h0 : P []) (hs : ∀ xs x, P xs → P (xs ++ [x])) (xs : List α) : P xs := by
  rw [← List.reverse_reverse xs]
  induction xs.reverse with
  | nil => exact h0
  | cons x l ih => rw [List.reverse_cons]; exact hs _ _ ih
theorem fm_some {α β : Type} (xs : List α) (g : α → β) : (List.range xs.length).filterMap (fun i => (xs[i]?).map g) = xs.map g := by
  refine snocInd (P := fun xs => (List.range xs.length).filterMap (fun i => (xs[i]?).map g) = xs.map g) rfl (fun xs x ih => ?_) xs
  · show (List.range (xs ++ [x]).length).filterMap (fun i => ((xs ++ [x])[i]?).map g) = (xs ++ [x]).map g
    rw [List.length_append, List.length_singleton, fm_succ, List.map_append]
    congr 1
    · rw [← ih]
      refine fm_congr _ trivial fun i hi => ?_
      have : i < xs.length := by simpa using hi
      rw [List.getElem?_append_left this]
    · simp
end
end L2
namespace L2
open PySem
section
variable {X : Cx} {K : PySem.W.Frag}
end
end L2
namespace L2
open PySem
/-- the rest of a block hidden while its first statement is read: keeps the terms small -/
theorem seq_one {a b : TS} {D : Ends} {σ : St} {H : Hp} (h : ∀ R : St → Hp → Prop, (∀ σ' H', b D σ' H' → R σ' H') → a { D with nx := R } σ H) : tSeq a b D σ H := h _ (fun _ _ x => x)
theorem seq_cps {a b : TS} {D : Ends} {σ : St} {H : Hp} (P : St → Hp → Prop) (h1 : ∀ D' : Ends, (∀ σ' H', P σ' H' → D'.nx σ' H') → D'.rt = D.rt → a D' σ H) (h2 : ∀ σ' H', P σ' H' → b D σ' H') : tSeq a b D σ H := h1 _ h2 rfl
end L2
namespace L2
open PySem PySem.Spec PyProof.Rows
section
variable {X : Cx} {K : PySem.W.Frag} {a : Expr} {ta : TE} {pos : Pos}
end
end L2
set_option Elab.async false
set_option linter.all false
set_option maxRecDepth 100000
set_option maxHeartbeats 4000000
namespace L2
open PySem PySem.Spec PyProof.Rows
section
variable {X : Cx} {K : PySem.W.Frag}
end
section
variable {K : PySem.W.Frag} {a D : Addr} {xs : List V} {te : TE} {Q : VK} {rest : St} {H1 : Hp}
theorem dats_snoc {H : Hp} {vs : List V} {ds : List PyData} {v : V} {d : PyData} (h : Dats H vs ds) (hd : Dat H v d) : Dats H (vs ++ [v]) (ds ++ [d]) := Dats.append h (by simp only [Dats, and_true]; exact hd)
theorem imms_mapN {f : Nat → PyData} (h : ∀ i, imm (f i) = true) (n : Nat) : imms ((List.range n).map f) = true := imms_map f h _
/-- items that are data of their own, over a range -/
theorem comp_datR {n : Nat} (f : Nat → PyData) (hf : ∀ i, imm (f i) = true) (hD : H1 D = none) (hx : n ≤ 100000)
    (hs : ∀ i H (F : VK), i < n → Same H1 H → (∀ y H', Same H H' → Dat H' y (f i) → F y H') → te (some (.int (0 + i)) :: rest) H F)
    (hd : ∀ H vs, Same H1 H → H D = some (.lst vs) → Dats H vs ((List.range n).map f) → Q (.ref D) H) : CompW (Itr 0 n) (gName 0) tAll te Q D (none :: rest) H1 := by
  refine comp_range (lo := 0) (n := n) (fun i σ H => (∃ v, σ = v :: rest) ∧ Same H1 H ∧ ∃ vs, H D = some (.lst vs) ∧ Dats H vs ((List.range i).map f)) ⟨⟨none, rfl⟩, same_new hD, [], upd_same, by simp [Dats]⟩ ?_ (fun σ H ⟨_, sm, vs, e, d⟩ => hd H vs sm e d)
  rintro i σ H hi ⟨⟨v, rfl⟩, sm, vs, e, d⟩
  refine hs i H _ hi sm fun y H4 s4 dy => ?_
  have hl : vs.length = i := by rw [d.length]; simp
  have kp : Kp D H4 (upd H4 D (.lst (vs ++ [y]))) := Kp.set
  have tp := kp.tups (s4 _ _ e)
  refine ⟨vs, s4 _ _ e, ?_, ⟨_, rfl⟩, (sm.trans s4).newly hD, vs ++ [y], upd_same, ?_⟩
  · rw [sizeLine_eq]; omega
  · rw [List.range_succ, List.map_append]
    exact dats_snoc (Dats.keep (fun a xs h => tp _ _ (s4.tups _ _ h)) _ (imms_mapN hf i) d) (Dat.keep tp _ (hf i) dy)
end
end L2
set_option Elab.async false
set_option linter.all false
namespace L2
open PySem
/-- a name of the module that is a number or a text -/
def Gv (mg : Str → Option Value) (x : Str) (v : V) : Prop := ∃ u, mg x = some u ∧ RelV v u
end L2
set_option Elab.async false
set_option linter.all false
set_option maxRecDepth 100000
set_option maxHeartbeats 4000000
namespace L2
open PySem PySem.Spec PyProof.Rows
section
variable {prog : Program} {w : World} {K : Type} [DecidableEq K] {knd : HeapKind prog w K}
end
section
variable {X : Cx} {o e f : Expr} {td ty tx : TE} {apos cpos : Pos}
end
end L2
namespace L2
open PySem PySem.Spec PyProof.Rows
section
variable {X : Cx} {K : PySem.W.Frag}
end
end L2
namespace L2
open PySem
end L2
set_option Elab.async false
set_option linter.all false
set_option maxRecDepth 100000
set_option maxHeartbeats 4000000
namespace L2
open PySem PySem.Spec PyProof.Rows
section
variable {X : Cx} {K : PySem.W.Frag}
end
/-! ### texts put together -/
def cat : List Str → Str
  | [] => Str.empty
  | x :: xs => x ++ cat xs
end L2
set_option Elab.async false
set_option linter.all false
set_option maxRecDepth 100000
set_option maxHeartbeats 4000000
namespace L2
open PySem PySem.Spec PyProof.Rows
section
variable {X : Cx} {body suite : List Stmt} {b0 : Stmt} {cn : Str} {Dc : Addr} {tb : (St → XK) → TS} {th : TS} {cp hpos pos : Pos}
end
end L2
namespace L2
open PySem PySem.Spec PyProof.Rows
section
variable {X : Cx}
def CDivB (i j : Int) : Prop := 0 < j ∧ j < 1329227995784915872903807060280344576
theorem op_fdivB : OpR X (binaryOp .FloorDiv) (rI CDivB fun i j => .int (i / j)) := opI fun i j _ _ _ _ _ hc q => by
  have h1 : (0 : Int) < j := hc.1
  have h2 : j < 1329227995784915872903807060280344576 := hc.2
  refine floordiv_int (by omega) (by rw [Int.fdiv_eq_ediv_of_nonneg i (by omega)]; exact q) (.inl ?_)
  unfold Builtin.divisionGoesByPylong
  have hn : j.natAbs < 2 ^ 120 := by omega
  have hl : j.natAbs.log2 < 120 := (Nat.log2_lt (by omega)).mpr hn
  have hz : (j == 0) = false := by
    rw [beq_eq_false_iff_ne]
    omega
  simp only [hz, Bool.false_eq_true, if_false]
  have : ¬ j.natAbs.log2 / 30 + 1 > 300 := by omega
  rw [decide_eq_false this, Bool.false_and]
end
end L2
set_option Elab.async false
set_option linter.all false
set_option maxRecDepth 100000
set_option maxHeartbeats 4000000
namespace L2
open PySem PySem.Spec PyProof.Rows
section
variable {X : Cx} {pins : List (Addr × Obj)} {σ : St} {H : Hp} {s : Shared} {d : Addr} {u u' : HO}
end
/-! ### over a dict's keys: the dict is held as it stands till the walk is over -/
section
variable {X : Cx} {tg : Expr}
end
section
variable {d D : Addr} {o : Obj} {kvs : List (Key × V)} {tc : TT} {te : TE} {Q : VK} {rest : St} {H1 : Hp}
end
/-! ### let go again -/
end L2
set_option Elab.async false
set_option linter.all false
set_option maxRecDepth 100000
set_option maxHeartbeats 4000000
namespace L2
open PySem PySem.Spec PyProof.Rows
/-! ### range downwards -/
section
variable {X : Cx} {tg : Expr}
/-! ### the least of a list -/
end
end L2
set_option Elab.async false
set_option linter.all false
set_option maxRecDepth 100000
set_option maxHeartbeats 4000000
namespace L2
open PySem PySem.Spec PyProof.Rows
/-! ### reversed of a list -/
section
variable {X : Cx} {tg : Expr}
/-! ### list(range(a, b)) -/
end
end L2
set_option Elab.async false
set_option linter.all false
set_option maxRecDepth 100000
set_option maxHeartbeats 4000000
namespace L2
open PySem PySem.Spec PyProof.Rows
/-! ### in, for lists of data -/
section
variable {X : Cx}
end
end L2
set_option Elab.async false
set_option linter.all false
set_option maxRecDepth 100000
set_option maxHeartbeats 4000000
namespace L2
open PySem PySem.Spec PyProof.Rows
/-! ### a def that may raise, where it doesn't -/
/-! ### data that stay -/
section
variable {H H' : Hp}
mutual
theorem Dat.same (k : Same H H') : ∀ (d : PyData) {v : V}, Dat H v d → Dat H' v d
  | .none, _, h => by simp only [Dat] at h ⊢; exact h
  | .bool _, _, h => by simp only [Dat] at h ⊢; exact h
  | .int _, _, h => by simp only [Dat] at h ⊢; exact h
  | .str _, _, h => by simp only [Dat] at h ⊢; exact h
  | .list ds, _, h => by simp only [Dat] at h ⊢; obtain ⟨a, vs, e, q, r⟩ := h; exact ⟨a, vs, e, k _ _ q, Dats.same k ds r⟩
  | .tuple ds, _, h => by simp only [Dat] at h ⊢; obtain ⟨a, vs, e, q, r⟩ := h; exact ⟨a, vs, e, k _ _ q, Dats.same k ds r⟩
  | .dict _, _, h => by simp only [Dat] at h
theorem Dats.same (k : Same H H') : ∀ (ds : List PyData) {vs : List V}, Dats H vs ds → Dats H' vs ds
  | [], [], _ => by simp only [Dats]
  | d :: ds, v :: vs, h => by simp only [Dats] at h ⊢; exact ⟨Dat.same k d h.1, Dats.same k ds h.2⟩
  | _ :: _, [], h => by simp only [Dats] at h
  | [], _ :: _, h => by simp only [Dats] at h
end
end
/-! ### isinstance(x, (t1, t2)) of plain data -/
section
variable {X : Cx} {K : PySem.W.Frag}
theorem isi_tuple_list (K : PySem.W.Frag) : PySem.W.kitOne K (.type "tuple") (.type "list") = some false := by kernel_rfl
theorem isi_list_tuple (K : PySem.W.Frag) : PySem.W.kitOne K (.type "list") (.type "tuple") = some false := by kernel_rfl
end
section
variable {K : PySem.W.Frag} {a D : Addr} {xs : List V} {tc : TT} {te : TE} {Q : VK} {rest : St} {H1 : Hp}
end
/-! ### t + u, any tuples -/
section
variable {X : Cx}
end
end L2
set_option Elab.async false
set_option linter.all false
set_option maxRecDepth 100000
set_option maxHeartbeats 4000000
namespace L2
open PySem PySem.Spec PyProof.Rows
/-! ### xs[::-1] -/
section
variable {X : Cx} {K : PySem.W.Frag} {e st : Expr} {te tk : TE} {pos p2 : Pos}
end
end L2
set_option Elab.async false
set_option linter.all false
set_option maxRecDepth 100000
set_option maxHeartbeats 4000000
namespace L2
open PySem PySem.Spec PyProof.Rows
/-! ### data are one -/
section
variable {H : Hp}
mutual
theorem Dat.fn : ∀ (d e : PyData) {v : V}, Dat H v d → Dat H v e → d = e
  | .none, e, v, h, g => by cases e <;> simp only [Dat] at h g <;> first | rfl | (subst h; first | (obtain ⟨_, _, z, _⟩ := g; cases z; done) | (cases g; done))
  | .bool _, e, v, h, g => by cases e <;> simp only [Dat] at h g <;> first | (subst h; first | (injection g with g; rw [g]; done) | (obtain ⟨_, _, z, _⟩ := g; cases z; done) | (cases g; done))
  | .int _, e, v, h, g => by cases e <;> simp only [Dat] at h g <;> first | (subst h; first | (injection g with g; rw [g]; done) | (obtain ⟨_, _, z, _⟩ := g; cases z; done) | (cases g; done))
  | .str _, e, v, h, g => by cases e <;> simp only [Dat] at h g <;> first | (subst h; first | (injection g with g; rw [g]; done) | (obtain ⟨_, _, z, _⟩ := g; cases z; done) | (cases g; done))
  | .list ds, .list es, v, h, g => by
    simp only [Dat] at h g
    obtain ⟨a, vs, rfl, ha, da⟩ := h
    obtain ⟨b, ws, e, hb, db⟩ := g
    injection e with e
    subst e
    rw [ha] at hb
    injection hb with hb
    injection hb with hb
    subst hb
    rw [Dats.fn ds es da db]
  | .tuple ds, .tuple es, v, h, g => by
    simp only [Dat] at h g
    obtain ⟨a, vs, rfl, ha, da⟩ := h
    obtain ⟨b, ws, e, hb, db⟩ := g
    injection e with e
    subst e
    rw [ha] at hb
    injection hb with hb
    injection hb with hb
    subst hb
    rw [Dats.fn ds es da db]
  | .list ds, .tuple es, v, h, g => by
    simp only [Dat] at h g
    obtain ⟨a, vs, rfl, ha, da⟩ := h
    obtain ⟨b, ws, e, hb, db⟩ := g
    injection e with e
    subst e
    rw [ha] at hb
    injection hb with hb
    cases hb
  | .tuple ds, .list es, v, h, g => by
    simp only [Dat] at h g
    obtain ⟨a, vs, rfl, ha, da⟩ := h
    obtain ⟨b, ws, e, hb, db⟩ := g
    injection e with e
    subst e
    rw [ha] at hb
    injection hb with hb
    cases hb
  | .list ds, .none, v, h, g => by simp only [Dat] at h g; obtain ⟨a, vs, rfl, _⟩ := h; cases g
  | .list ds, .bool _, v, h, g => by simp only [Dat] at h g; obtain ⟨a, vs, rfl, _⟩ := h; cases g
  | .list ds, .int _, v, h, g => by simp only [Dat] at h g; obtain ⟨a, vs, rfl, _⟩ := h; cases g
  | .list ds, .str _, v, h, g => by simp only [Dat] at h g; obtain ⟨a, vs, rfl, _⟩ := h; cases g
  | .tuple ds, .none, v, h, g => by simp only [Dat] at h g; obtain ⟨a, vs, rfl, _⟩ := h; cases g
  | .tuple ds, .bool _, v, h, g => by simp only [Dat] at h g; obtain ⟨a, vs, rfl, _⟩ := h; cases g
  | .tuple ds, .int _, v, h, g => by simp only [Dat] at h g; obtain ⟨a, vs, rfl, _⟩ := h; cases g
  | .tuple ds, .str _, v, h, g => by simp only [Dat] at h g; obtain ⟨a, vs, rfl, _⟩ := h; cases g
  | .list ds, .dict _, v, h, g => by simp only [Dat] at g
  | .tuple ds, .dict _, v, h, g => by simp only [Dat] at g
  | .dict _, _, v, h, g => by simp only [Dat] at h
theorem Dats.fn : ∀ (ds es : List PyData) {vs : List V}, Dats H vs ds → Dats H vs es → ds = es
  | [], [], _, _, _ => rfl
  | d :: ds, e :: es, v :: vs, h, g => by
    simp only [Dats] at h g
    rw [Dat.fn d e h.1 g.1, Dats.fn ds es h.2 g.2]
  | [], _ :: _, [], _, g => by simp only [Dats] at g
  | [], _ :: _, _ :: _, h, _ => by simp only [Dats] at h
  | _ :: _, [], [], h, _ => by simp only [Dats] at h
  | _ :: _, [], _ :: _, _, g => by simp only [Dats] at g
  | _ :: _, _ :: _, [], h, _ => by simp only [Dats] at h
end
end
/-! ### xs.index(x), of tuples -/
section
variable {X : Cx}
end
end L2
set_option Elab.async false
set_option linter.all false
set_option maxRecDepth 100000
set_option maxHeartbeats 4000000
namespace L2
open PySem PySem.Spec PyProof.Rows
/-! ### f"..{n}" -/
section
variable {X : Cx} {K : PySem.W.Frag} {e e1 e2 l : Expr} {te t1 t2 tl : TE} {pos : Pos} {tg : Expr}
/-! ### walking a list or a tuple -/
end
section
variable {X : Cx}
end
end L2
set_option Elab.async false
set_option linter.all false
set_option maxRecDepth 100000
set_option maxHeartbeats 4000000
namespace L2
open PySem PySem.Spec PyProof.Rows PySem.Builtin PySem.Builtin.Str
/-! ### texts taken apart -/
section
variable {X : Cx} {K : PySem.W.Frag}
/-! ### the signs of a text, one by one -/
def Its (x : Str) : It := ⟨fun i _ => i < x.cps.size, fun i H v H' => H' = H ∧ ∃ c, x.cps[i]? = some c ∧ v = .str ⟨#[c]⟩, fun i _ => x.cps.size ≤ i⟩
theorem turn_str {P : Program} {w : World} {K : PySem.W.Frag} {tg : Expr} (x : Str) (t : Tok) (it : Addr) : Turn P w K tg (Its x) [it] it (fun i h => i ≤ x.cps.size ∧ (h.IsStrIter it "str_ascii_iterator" x t i ∨ h.IsStrIter it "str_iterator" x t i)) where
  mem := by simp
  obj := fun i h st b hb => by
    have e : b = it := by simpa using hb
    subst e
    rcases st.2 with ⟨o, e, c, d⟩ | ⟨o, e, c, d⟩
    · exact ⟨o, e, fun v z => by rw [d] at z; cases z⟩
    · exact ⟨o, e, fun v z => by rw [d] at z; cases z⟩
  keep := fun i h h' st k => ⟨st.1, st.2.imp (fun ⟨o, e, r⟩ => ⟨o, k it (by simp) o e, r⟩) (fun ⟨o, e, r⟩ => ⟨o, k it (by simp) o e, r⟩)⟩
  item := by
    intro X hP hw hK hc i pins s σ H E I hf st hg
    subst hP hw hK
    have hi : i < x.cps.size := hg
    have hx : x.cps[i]? = some x.cps[i] := by simp [hi]
    obtain ⟨f0, f1, f2, f3, f4, f5⟩ := hf it (by simp)
    rcases st.2 with st | st
    · refine wpAny_pyNext_ascii_item st hx fun h' st' sb => ?_
      have I1 : Inv X pins σ H { s with heap := h', toks := s.toks + 1 } := I.turned (t' := s.toks + 1) (fun b o hb e => (sb.2 b hb).trans e) f0 f1 f3 f4 f5
      obtain ⟨o, e, c, d⟩ := id st'
      exact ⟨_, rfl, go_of (s := { s with heap := h', toks := s.toks + 1 }) e c d (by decide) ⟨.str ⟨#[x.cps[i]]⟩, H, I1, ⟨_, rfl⟩, ⟨rfl, _, hx, rfl⟩, ⟨hi, .inl st'⟩, fun b hb => (hf b hb).1⟩⟩
    · refine wpAny_pyNext_wide_item st hx fun h' st' sb => ?_
      have I1 : Inv X pins σ H { s with heap := h', toks := s.toks + 1 } := I.turned (t' := s.toks + 1) (fun b o hb e => (sb.2 b hb).trans e) f0 f1 f3 f4 f5
      obtain ⟨o, e, c, d⟩ := id st'
      exact ⟨_, rfl, go_of (s := { s with heap := h', toks := s.toks + 1 }) e c d (by decide) ⟨.str ⟨#[x.cps[i]]⟩, H, I1, ⟨_, rfl⟩, ⟨rfl, _, hx, rfl⟩, ⟨hi, .inr st'⟩, fun b hb => (hf b hb).1⟩⟩
  done := by
    intro X hP hw hK hc i pins s σ H E I hf st hg
    subst hP hw hK
    have hx : x.cps[i]? = none := by simpa using (show x.cps.size ≤ i from hg)
    obtain ⟨f0, f1, f2, f3, f4, f5⟩ := hf it (by simp)
    rcases st.2 with st | st
    · exact wpAny_pyNext_ascii_end (I.ok.hd hc) st hx fun h' eb => ⟨rfl, I.turned (t' := s.toks) (fun b o hb e => eb b o hb e) f0 f1 f3 f4 f5⟩
    · exact wpAny_pyNext_wide_end (I.ok.hd hc) st hx fun h' eb => ⟨rfl, I.turned (t' := s.toks) (fun b o hb e => eb b o hb e) f0 f1 f3 f4 f5⟩
  self := fun _ _ _ _ _ st h => st.2.elim (fun st => wpAny_pyIter_striter_ascii st h) (fun st => wpAny_pyIter_striter_wide st h)
def iStr (tl : TE) : TI := fun σ H R => tl σ H fun x H1 => ∃ a, x = .str a ∧ R (Its a) H1
theorem pi_str {tg l : Expr} {tl : TE} (hl : PE X l tl) : PI X tg l (iStr tl) := by
  intro pins s σ H R I h
  refine thn (hl pins s σ H _ I h) fun v s1 ⟨x, H1, I1, r1, q1⟩ => ?_
  obtain ⟨a, rfl, q⟩ := q1
  obtain ⟨t, rfl⟩ := r1
  have fin : ∀ o, (s1.heap.push o).IsStrIter s1.heap.objs.size "str_ascii_iterator" a t 0 ∨ (s1.heap.push o).IsStrIter s1.heap.objs.size "str_iterator" a t 0 → PIE X pins σ tg R (.ref s1.heap.objs.size) { s1 with heap := s1.heap.push o } := by
    intro o st
    refine ⟨s1.heap.objs.size, [s1.heap.objs.size], _, _, H1, rfl, I1.kept (t' := s1.toks) fun b o e => Heap.get?_push_of_some _ e, turn_str a t _, ⟨Nat.zero_le _, st⟩, fun b hb => ?_, q⟩
    have e : b = s1.heap.objs.size := by simpa using hb
    subst e
    exact I1.fpOk (Nat.le_refl _) (I1.hok.fresh (Nat.le_refl _))
  cases ha : a.cps.all (· < 128)
  · exact wpAny_pyIter_wide ha (fin _ (.inr ⟨_, Heap.get?_push_size _ rfl, rfl, rfl⟩))
  · exact wpAny_pyIter_ascii ha (fin _ (.inl ⟨_, Heap.get?_push_size _ rfl, rfl, rfl⟩))
end
section
variable {K : PySem.W.Frag} {D : Addr} {tc : TT} {te : TE} {Q : VK} {rest : St} {H1 : Hp}
theorem comp_strP {x : Str} {g : TG} {σ0 : St} (Pv : Nat → St → Hp → Prop) (h0 : Pv 0 σ0 (upd H1 D (.lst [])))
    (hs : ∀ i c σ H, x.cps[i]? = some c → Pv i σ H → g (.str ⟨#[c]⟩) σ H fun σ2 H2 => tc σ2 H2 fun b H3 =>
      if b = true then te σ2 H3 fun y H4 => ∃ acc, H4 D = some (.lst acc) ∧ acc.length < sizeLine ∧ Pv (i + 1) σ2 (upd H4 D (.lst (acc ++ [y]))) else Pv (i + 1) σ2 H3)
    (hd : ∀ σ H, Pv x.cps.size σ H → Q (.ref D) H) : CompW (Its x) g tc te Q D σ0 H1 := by
  refine ⟨fun i m σ H => m = x.cps.size - i ∧ i ≤ x.cps.size ∧ Pv i σ H, ⟨x.cps.size, by simp, Nat.zero_le _, h0⟩, ?_⟩
  rintro i m σ H ⟨rfl, hi, p⟩
  by_cases hlt : i < x.cps.size
  · refine .inr ⟨hlt, Pv (i + 1), fun σ' H' p' => ⟨x.cps.size - (i + 1), by omega, rfl, hlt, p'⟩, fun y H' e => ?_⟩
    obtain ⟨e, c, hc, rfl⟩ := e
    subst e
    exact hs i c σ _ hc p
  · have e : i = x.cps.size := by omega
    subst e
    exact .inl ⟨Nat.le_refl _, hd σ H p⟩
theorem comp_valS {x : Str} (f : Nat → Option V) (hD : H1 D = none) (hx : x.cps.size ≤ 100000)
    (hs : ∀ i c H (G : Hp → Prop) (F : VK), x.cps[i]? = some c → Same H1 H → (∀ H', Same H H' → f i = none → G H') → (∀ y H', Same H H' → f i = some y → F y H') → tc (some (.str ⟨#[c]⟩) :: rest) H fun b H3 => if b = true then te (some (.str ⟨#[c]⟩) :: rest) H3 F else G H3)
    (hd : ∀ H, Same H1 H → H D = some (.lst ((List.range x.cps.size).filterMap f)) → Q (.ref D) H) : CompW (Its x) (gName 0) tc te Q D (none :: rest) H1 := by
  refine comp_strP (fun i σ H => (∃ v, σ = v :: rest) ∧ Same H1 H ∧ H D = some (.lst ((List.range i).filterMap f))) ⟨⟨none, rfl⟩, same_new hD, upd_same⟩ ?_ (fun σ H ⟨_, sm, e⟩ => hd H sm e)
  rintro i c σ H hi ⟨⟨v, rfl⟩, sm, e⟩
  have hil : i < x.cps.size := (Array.getElem?_eq_some_iff.mp hi).1
  refine hs i c H _ _ hi sm (fun H3 s3 ef => ⟨⟨_, rfl⟩, sm.trans s3, by rw [s3 _ _ e, fm_succ, ef]; simp⟩) (fun y H4 s4 ef => ?_)
  refine ⟨_, s4 _ _ e, ?_, ⟨_, rfl⟩, (sm.trans s4).newly hD, ?_⟩
  · have := fm_len f i
    rw [sizeLine_eq]; omega
  · rw [upd_same, fm_succ, ef]; rfl
end
section
variable {X : Cx}
end
end L2
set_option Elab.async false
set_option linter.all false
set_option maxRecDepth 100000
set_option maxHeartbeats 4000000
namespace L2
open PySem PySem.Spec PyProof.Rows PySem.Builtin PySem.Builtin.Str
/-! ### a text put together of parts without the sign between, taken apart there again -/
/-! ### the texts of the numbers below 1000 -/
end L2
set_option Elab.async false
set_option linter.all false
set_option maxRecDepth 100000
set_option maxHeartbeats 4000000
namespace L2
open PySem PySem.Spec PyProof.Rows
/-! ### classes: methods and instances made -/
section
variable (P : Program) (w : World) (K : PySem.W.Frag) (mg : Str → Option Value) (base : Heap)
def MethAt (k : Nat) (C : Addr) (m : Str) (ps : List Str) (sp : Sp) : Prop := ∃ f fd, FnOk P w K mg base CX0 k f fd ps sp ∧ Meth K C m f ∧ Binds K fd ps []
def MethAtX (k : Nat) (C : Addr) (m : Str) (ps : List Str) (sp : Sp) : Prop := ∃ f fd, FnOk P w K mg base (CX1 P w) k f fd ps sp ∧ Meth K C m f ∧ Binds K fd ps []
/-- dvs: the values of the defaults that stand last -/
def MakeAt (k : Nat) (C : Addr) (x : Str) (ps : List Str) (dvs : List V) (sp : Sp) : Prop := ∃ f fd ds, FnOk P w K mg base CX0 k f fd ps sp ∧ Mk K C f ∧ mg x = some (.ref C) ∧ Binds K fd ps ds ∧ Vals dvs ds
def MakeAtX (k : Nat) (C : Addr) (x : Str) (ps : List Str) (dvs : List V) (sp : Sp) : Prop := ∃ f fd ds, FnOk P w K mg base (CX1 P w) k f fd ps sp ∧ Mk K C f ∧ mg x = some (.ref C) ∧ Binds K fd ps ds ∧ Vals dvs ds
/-- the last parameter by its name -/
def MakeAtK (k : Nat) (C : Addr) (x : Str) (ps : List Str) (kn : Str) (sp : Sp) : Prop := ∃ f fd, FnOk P w K mg base (CX1 P w) k f fd ps sp ∧ Mk K C f ∧ mg x = some (.ref C) ∧
  ∀ (s : Shared) (us : List Value) (z : Value), K.In s.heap → (us ++ [z]).length = ps.length → BindsTo s fd ⟨us, [(kn, z)]⟩ (ps.zip (us ++ [z]))
end
section
variable {P : Program} {w : World} {K : PySem.W.Frag} {mg : Str → Option Value} {base : Heap} {k : Nat} {C : Addr} {m x : Str} {ps : List Str} {sp : Sp} {dvs : List V}
theorem FnOk.calm {f : Addr} {fd : FuncData} (G : FnOk P w K mg base (CX1 P w) k f fd ps sp) : FnOk P w K mg base CX0 k f fd ps (fun vs H Q _ => sp vs H Q fun _ _ _ => False) := by
  refine ⟨fun vs H Q E q => G.len vs H Q _ q, fun A outer s H args us vs Q E hr he hbd hv hs => ?_⟩
  refine codeAny_mono (G.run A outer s H args us vs Q (fun _ _ _ => False) hr he hbd hv hs) fun res s' hq => ?_
  match res, hq with
  | .error ev, hq =>
    obtain ⟨e, cls, dx, H', _, _, _, _, _, _, _, _, z⟩ := hq
    exact z.elim
  | .ok (.ret u), hq => exact hq
theorem MethAtX.calm (F : MethAtX P w K mg base k C m ps sp) : MethAt P w K mg base k C m ps (fun vs H Q _ => sp vs H Q fun _ _ _ => False) := by
  obtain ⟨f, fd, G, r⟩ := F
  exact ⟨f, fd, G.calm, r⟩
theorem MakeAtX.calm (F : MakeAtX P w K mg base k C x ps dvs sp) : MakeAt P w K mg base k C x ps dvs (fun vs H Q _ => sp vs H Q fun _ _ _ => False) := by
  obtain ⟨f, fd, ds, G, r⟩ := F
  exact ⟨f, fd, ds, G.calm, r⟩
end
section
variable {X : Cx} {k : Nat} {C : Addr} {x m : Str} {ps : List Str} {sp : Sp} {dvs : List V} {e o : Expr} {es : List Expr} {ta : TE} {t : TA} {p pos apos : Pos} {E : St → XK}
theorem pe_methA {pl : Sem Bool} (M : MethAt X.prog X.w X.K X.mg X.base k C m ps sp) (c : Cls X.K C) (hr : Room k X.A) (he : PE X o ta) (ha : PA X (e :: es) t)
    (hst : starEach (e :: es) X.env = (false, eval e X.env) :: starEach es X.env := by rfl) (hpl : (backTo pos (starEach es X.env)).any (·.1) = false := by rfl)
    (ht : eval (.Call (.Attribute o m apos) (e :: es) [] pos) X.env = (do
      let ov ← eval o X.env
      standAt apos.atName
      let (f, first) ← holding [ov] (getMethod ov m pl)
      callWith pos f first (backTo pos (starEach (e :: es) X.env)) (backToKw pos (keywordEach [] X.env))) := by rfl) :
    PE X (.Call (.Attribute o m apos) (e :: es) [] pos) (tMeth C m sp [] E0 ta t) := by
  obtain ⟨f, fd, G, hm, hb⟩ := M
  exact pe_meth he c hm G hr hb .nil pass0 ha hst hpl ht
theorem pe_methA0 {pl : Sem Bool} (M : MethAt X.prog X.w X.K X.mg X.base k C m ps sp) (c : Cls X.K C) (hr : Room k X.A) (he : PE X o ta)
    (ht : eval (.Call (.Attribute o m apos) [] [] pos) X.env = (do
      let ov ← eval o X.env
      standAt apos.atName
      let (f, first) ← holding [ov] (getMethod ov m pl)
      callWith pos f first (backTo pos (starEach [] X.env)) (backToKw pos (keywordEach [] X.env))) := by rfl) :
    PE X (.Call (.Attribute o m apos) [] [] pos) (tMeth C m sp [] E0 ta tNil) := by
  obtain ⟨f, fd, G, hm, hb⟩ := M
  exact pe_meth0 he c hm G hr hb .nil pass0 ht
/-- the same where the exceptions of the callee go on -/
def tMethX (C : Addr) (m : Str) (sp : Sp) (E : St → XK) (ta : TE) (t : TA) : TE := fun σ H Q => ta σ H fun x H1 => ∃ a dx fs, x = .ref a ∧ H1 a = some (.ins C dx fs) ∧ fs.lookup m = none ∧ t σ H1 fun vs H2 => sp (x :: vs) H2 Q (E σ)
theorem run_fnX {pins : List (Addr × Obj)} {σ : St} {H : Hp} {s : Shared} {Q : VK} {us : List Value} {vs : List V} {f : Addr} {fd : FuncData} (G : FnOk X.prog X.w X.K X.mg X.base (CX1 X.prog X.w) k f fd ps sp) (hx : X.ex = []) (R : Rz X E) (hr : Room k X.A) (hb : Binds X.K fd ps [])
    (I : Inv X pins σ H s) (r : Vals vs us) (q : sp vs H Q (E σ)) : wpAny (model X.prog X.w) X.A (call (.ref f) us) (EP X pins σ Q) X.xe s := by
  have hlen : us.length = ps.length := by rw [← r.length]; exact G.len _ _ _ _ q
  have hbd := hb s us I.kIn (by rw [List.append_nil]; exact hlen)
  rw [List.append_nil] at hbd
  refine wpAny_call (codeAny_mono (G.run X.A X.stack s H ⟨us, []⟩ us vs Q (E σ) hr I.env0 hbd r q) fun res s' hq => ?_)
  match res, hq with
  | .error ev, hq => exact passes1 hx R I hq
  | .ok (.ret u), hq => exact I.after hq
theorem pe_methX {pl : Sem Bool} (M : MethAtX X.prog X.w X.K X.mg X.base k C m ps sp) (c : Cls X.K C) (hx : X.ex = []) (R : Rz X E) (hr : Room k X.A) (he : PE X o ta) (ha : PA X (e :: es) t)
    (hst : starEach (e :: es) X.env = (false, eval e X.env) :: starEach es X.env := by rfl) (hpl : (backTo pos (starEach es X.env)).any (·.1) = false := by rfl)
    (ht : eval (.Call (.Attribute o m apos) (e :: es) [] pos) X.env = (do
      let ov ← eval o X.env
      standAt apos.atName
      let (f, first) ← holding [ov] (getMethod ov m pl)
      callWith pos f first (backTo pos (starEach (e :: es) X.env)) (backToKw pos (keywordEach [] X.env))) := by rfl) :
    PE X (.Call (.Attribute o m apos) (e :: es) [] pos) (tMethX C m sp E ta t) := by
  obtain ⟨f, fd, G, hm, hb⟩ := M
  intro pins s σ H Q I h
  refine PySem.W.methodCall_KW (pl := pl) (thn (he pins s σ H _ I h) fun u s1 ⟨x, H1, I1, rx, a, dx, fs, ex, ea, l, q⟩ => ?_) ht
  subst ex
  obtain rfl : u = Value.ref a := rx
  refine getmeth_ok I1 ea c hm l ?_
  refine PySem.W.callWith_K (first := [.ref a]) (h₀ := X.base) I.ok.mod.kin hm.kp (thn (ha pos pins s1 σ H1 _ I1 q) fun us s2 ⟨vs, H2, I2, r, q2⟩ => ⟨I2.kIn, ?_⟩) hst hpl
  exact run_fnX (us := .ref a :: us) (vs := .ref a :: vs) G hx R hr hb I2 (.cons rfl r) q2
theorem pe_makeA (M : MakeAt X.prog X.w X.K X.mg X.base k C x ps dvs sp) (hr : Room (k + 1) X.A) (hg : Gl X x) (ha : PA X (e :: es) t) (hdb : (x == ("__debug__" : Str)) = false := by decide)
    (he : starEach (e :: es) X.env = (false, eval e X.env) :: starEach es X.env := by rfl) (hpl : (backTo pos (starEach es X.env)).any (·.1) = false := by rfl) :
    PE X (.Call (.Name x p) (e :: es) [] pos) (tMake C sp dvs E0 t) := by
  obtain ⟨f, fd, ds, G, mk, hm, hb, hd⟩ := M
  exact pe_make mk G hr hg hm hb hd pass0 ha hdb he hpl
end
end L2
namespace L2
open PySem PySem.Spec PyProof.Rows PySem.Builtin PySem.Builtin.Str
/-! ### more of classes and texts -/
section
variable {X : Cx} {K : PySem.W.Frag} {o e value : Expr} {f : Str} {pos pos' tpos : Pos} {ta tv : TE}
theorem pe_fldK (hK : X.K = K) (he : PE X e ta) (hb : attributeBase e f X.env (eval e X.env) = eval e X.env) : PE X (.Attribute e f pos) (tFld K ta f) := by subst hK; exact pe_fld he hb
theorem ps_fldK (hK : X.K = K) (ha : PE X o ta) (hv : PE X value tv) (hs : swapsWith value (some (.Attribute o f pos')) pos.line X.env = pure false) : PS X (.Assign [.Attribute o f pos'] value pos) (sFld K ta tv f) := by subst hK; exact ps_fld ha hv hs
theorem ps_fldaugK {op : Operator} {rd : V → V → Hp → VK → Prop} (hK : X.K = K) (ha : PE X o ta) (hv : PE X value tv) (hop : InOp X op rd) : PS X (.AugAssign (.Attribute o f tpos) op value pos) (sFldAug K ta tv rd f) := by subst hK; exact ps_fldaug ha hv hop
def rIdxS : V → List V → Hp → VK → Prop := fun x vs H Q => ∃ (a y : Str) (i : Nat) (r : List Nat), x = .str a ∧ vs = [.str y] ∧ occurrences a y 0 a.length 1 = i :: r ∧ Q (.int i) H
theorem mt_indexS : MtR X "str.index" rIdxS := by
  intro pins s σ H x vs v us Q I rx rv h
  obtain ⟨a, y, i, r, rfl, rfl, ho, q⟩ := h
  obtain ⟨t, rfl⟩ := rx
  obtain ⟨u, rfl, ru⟩ := rv.one
  obtain ⟨t2, rfl⟩ := ru
  exact call_meets PySem.F.slot_str_index (typeIs_str _ _ _) PySem.F.entry_str_index (PySem.F.args_str_index_2 _ _) (gives_str_index a y t t2 i r ho).meets ⟨.int i, H, I.tok _, ⟨_, rfl⟩, q⟩
end
/-! ### a def with defaults -/
structure FunD (K : PySem.W.Frag) (x qual : Str) (st : Stmt) (ds : List Value) (f : Addr) (fd : FuncData) : Prop where
  ex : ∃ (oc : Value) (od : Option Addr) (T : Addr) (kV doc pm : Value) (an : Option Addr) (cdv ct : Value) (osl : Array (Option Value)) (tc : Value) (td : Option Addr) (tn : Nat) (tsl : Array (Option Value)),
    fd = PySem.W.fnOf x qual (defArgs st) (defBody st) (defScope st) (.ref T) kV doc pm an cdv ct ∧ K.lookup f = some ⟨oc, od, .func fd, osl⟩ ∧ PySem.W.codeIn K cdv qual = true ∧ K.lookup T = some ⟨tc, td, .seq ds.toArray tn, tsl⟩
  kp : PySem.W.keepIn K (.ref f) = true
section
variable {P : Program} {w : World} {K : PySem.W.Frag} {mg : Str → Option Value} {base : Heap}
theorem FunD.okX {x qual : Str} {st : Stmt} {ds : List Value} {f : Addr} {fd : FuncData} {N ps : List Str} {k : Nat} {sp : Sp} (F : FunD K x qual st ds f fd) (S : FnScope N ps (defScope st)) (len : ∀ vs H Q E, sp vs H Q E → vs.length = ps.length)
    (hbody : ∀ (cdv : Value) (A : Around) (outer : List Env) (s : Shared) (H : Hp) (vs : List V) (Q : VK) (E : XK), Room k (A.deeper (envOfC qual (defScope st) s.heap.objs.size f cdv)) → sp vs H Q E →
      Rz (cxOf (CX1 P w) P w K mg base N qual (defScope st) f cdv A outer s H E) (fun _ => E) →
      ∃ t, PSs (cxOf (CX1 P w) P w K mg base N qual (defScope st) f cdv A outer s H E) (defBody st) t ∧ t { nx := fun _ H' => Q .non H', rt := Q } (start N vs) H) : FnOk P w K mg base (CX1 P w) (k + 1) f fd ps sp := by
  obtain ⟨oc, od, T, kV, doc, pm, an, cdv, ct, osl, tc, td, tn, tsl, rfl, lk, hcd, _⟩ := F.ex
  exact fn_of lk hcd S len fun A outer s H vs Q E hr hsp => hbody cdv A outer s H vs Q E hr hsp rz_leave
end
/-! ### an instance made with the last parameter by its name -/
section
variable {X : Cx} {k : Nat} {C : Addr} {x kn : Str} {ps : List Str} {sp : Sp} {e ke : Expr} {es : List Expr} {te : TE} {t : TA} {p pos kpos : Pos} {E : St → XK}
end
end L2
set_option Elab.async false
set_option linter.all false
set_option maxRecDepth 100000
set_option maxHeartbeats 4000000
namespace L2
open PySem PySem.Spec PyProof.Rows
/-! ### x, y = a list of two -/
section
variable {prog : Program} {w : World} {A : Around} {E : Value → Shared → Prop} {s : Shared}
end
section
variable {X : Cx} {pos : Pos}
end
end L2
set_option Elab.async false
set_option linter.all false
set_option maxRecDepth 100000
set_option maxHeartbeats 4000000
namespace L2
open PySem
/-! ### tags: to whom an address belongs ([]: to nobody in particular; [0]: never written again; i :: r: to thing i) -/
abbrev Tg := Addr → List Nat
def tgSet (τ : Tg) (x : Addr) (t : List Nat) : Tg := fun y => if y = x then t else τ y
theorem tgSet_same {τ : Tg} {x : Addr} {t : List Nat} : tgSet τ x t x = t := if_pos rfl
theorem tgSet_ne {τ : Tg} {x y : Addr} {t : List Nat} (h : y ≠ x) : tgSet τ x t y = τ y := if_neg h
def Unt (τ : Tg) (H : Hp) : Prop := ∀ x, H x = none → τ x = []
theorem Unt.dom {τ : Tg} {H H' : Hp} (u : Unt τ H) (d : ∀ x, H' x = none → H x = none) : Unt τ H' := fun x e => u x (d x e)
theorem Unt.same {τ : Tg} {H H' : Hp} (u : Unt τ H) (k : Same H H') : Unt τ H' := u.dom fun _ e => k.free e
theorem Unt.claim {τ : Tg} {H H' : Hp} {p : Addr} {t : List Nat} (u : Unt τ H) (k : Same H H') (hp : ∃ o, H' p = some o) : Unt (tgSet τ p t) H' := fun x e => by
  have n : x ≠ p := fun z => by
    obtain ⟨o, ho⟩ := hp
    rw [z, ho] at e
    cases e
  rw [tgSet_ne n]
  exact u.same k x e
theorem ne_tag {τ : Tg} {a b : Addr} {s t : List Nat} (ha : τ a = s) (hb : τ b = t) (h : s ≠ t) : a ≠ b := fun e => h (by rw [← ha, ← hb, e])
/-- the things of i alone are changed -/
structure Stp (i : Nat) (τ : Tg) (H H' : Hp) : Prop where
  keep : ∀ x o, H x = some o → (τ x).head? ≠ some i → H' x = some o
  tup : ∀ x xs, H x = some (.tup xs) → H' x = some (.tup xs)
  dom : ∀ x, H' x = none → H x = none
theorem Stp.of_same {i : Nat} {τ : Tg} {H H' : Hp} (k : Same H H') : Stp i τ H H' := ⟨fun x o e _ => k _ _ e, fun x xs e => k _ _ e, fun x e => k.free e⟩
theorem Stp.set {i : Nat} {τ : Tg} {H : Hp} {x : Addr} {o u : HO} (ht : (τ x).head? = some i) (hx : H x = some o) (hn : ∀ xs, o ≠ .tup xs) : Stp i τ H (upd H x u) := by
  refine ⟨fun y v e n => ?_, fun y xs e => ?_, fun y e => ?_⟩
  · have z : y ≠ x := fun z => n (by rw [z]; exact ht)
    rw [upd_ne z]; exact e
  · rw [upd_ne (ne_of e hx fun z => hn xs z.symm)]; exact e
  · by_cases z : y = x
    · rw [z, upd_same] at e; cases e
    · rw [upd_ne z] at e; exact e
theorem Stp.un {i : Nat} {τ : Tg} {H H' : Hp} (a : Stp i τ H H') (u : Unt τ H) : Unt τ H' := u.dom a.dom
/-- what belongs to i, and what is never written again, stays -/
structure Mv (i : Nat) (τ : Tg) (H : Hp) (τ' : Tg) (H' : Hp) : Prop where
  keep : ∀ x o, H x = some o → τ x = [0] ∨ (τ x).head? = some i → H' x = some o ∧ τ' x = τ x
  tup : ∀ x xs, H x = some (.tup xs) → H' x = some (.tup xs)
theorem Mv.of_same {i : Nat} {τ : Tg} {H H' : Hp} (k : Same H H') : Mv i τ H τ H' := ⟨fun x o e _ => ⟨k _ _ e, rfl⟩, fun x xs e => k _ _ e⟩
theorem Mv.tags {i : Nat} {τ τ' : Tg} {H H' : Hp} (k : Same H H') (t : ∀ x o, H x = some o → τ' x = τ x) : Mv i τ H τ' H' := ⟨fun x o e _ => ⟨k _ _ e, t x o e⟩, fun x xs e => k _ _ e⟩
theorem Mv.claim {i : Nat} {τ : Tg} {H H' : Hp} {p : Addr} {t : List Nat} (k : Same H H') (hp : H p = none) : Mv i τ H (tgSet τ p t) H' := .tags k fun x o e => tgSet_ne (ne_of_none e hp)
theorem Mv.of_stp {i j : Nat} {τ : Tg} {H H' : Hp} (k : Stp j τ H H') (h : j ≠ i) (h0 : j ≠ 0) : Mv i τ H τ H' := ⟨fun x o e t => ⟨k.keep _ _ e (by
  rcases t with t | t
  · rw [t]; intro z; exact h0 (Option.some.inj z).symm
  · rw [t]; intro z; exact h (Option.some.inj z).symm), rfl⟩, k.tup⟩
end L2
set_option Elab.async false
set_option linter.all false
set_option maxRecDepth 100000
set_option maxHeartbeats 4000000
namespace Prf
open PySem L2
/-! ### programs -/
inductive Ex1 where
  | num (n : Int)
  | box (b : Nat)
  deriving DecidableEq
inductive Exx where
  | one (x : Ex1)
  | two (p : Bool) (x y : Ex1)
  deriving DecidableEq
inductive Rw where
  | load (b c : Nat)
  | store (c : Nat) (e : Exx)
  | swap (b c : Nat) (e : Exx)
  | lett (b : Nat) (e : Exx)
  | say (e : Exx)
  | go (k : Nat)
  | unl (q : Bool) (e f : Exx) (k : Nat)
  deriving DecidableEq
def bxS (b : Nat) : Str := ⟨#[97 + b]⟩
def x1D : Ex1 → PyData
  | .num n => .tuple [.str "number", .int n]
  | .box b => .tuple [.str "box", .str (bxS b)]
def exD : Exx → PyData
  | .one x => x1D x
  | .two p x y => .tuple [.str (if p then "plus" else "minus"), x1D x, x1D y]
def rwD : Rw → PyData
  | .load b c => .tuple [.str "load", .str (bxS b), .int c]
  | .store c e => .tuple [.str "store", .int c, exD e]
  | .swap b c e => .tuple [.str "swap", .str (bxS b), .int c, exD e]
  | .lett b e => .tuple [.str "let", .str (bxS b), exD e]
  | .say e => .tuple [.str "say", exD e]
  | .go k => .tuple [.str "go", .int k]
  | .unl q e f k => .tuple [.str "unless", .str (if q then "=" else "<"), exD e, exD f, .int k]
def x1Ok : Ex1 → Prop
  | .num n => 0 ≤ n ∧ n < 1000
  | .box b => b < 8
def exOk : Exx → Prop
  | .one x => x1Ok x
  | .two _ x y => x1Ok x ∧ x1Ok y
def rwOk (m : Nat) : Rw → Prop
  | .load b c => b < 8 ∧ c < m
  | .store c e => c < m ∧ exOk e
  | .swap b c e => b < 8 ∧ c < m ∧ exOk e
  | .lett b e => b < 8 ∧ exOk e
  | .say e => exOk e
  | .go _ => True
  | .unl _ e f _ => exOk e ∧ exOk f
theorem imm_x1 : ∀ x : Ex1, imm (x1D x) = true
  | .num _ => rfl
  | .box _ => rfl
theorem imm_ex : ∀ e : Exx, imm (exD e) = true
  | .one x => imm_x1 x
  | .two p x y => by simp only [exD, imm, imms, imm_x1, Bool.and_self]
theorem imm_rw : ∀ r : Rw, imm (rwD r) = true
  | .load _ _ => rfl
  | .store _ e => by simp only [rwD, imm, imms, imm_ex, Bool.and_self]
  | .swap _ _ e => by simp only [rwD, imm, imms, imm_ex, Bool.and_self]
  | .lett _ e => by simp only [rwD, imm, imms, imm_ex, Bool.and_self]
  | .say e => by simp only [rwD, imm, imms, imm_ex, Bool.and_self]
  | .go _ => rfl
  | .unl _ e f _ => by simp only [rwD, imm, imms, imm_ex, Bool.and_self]
section
variable {H : Hp} {v : V}
theorem at_x1 {x : Ex1} (h : Dat H v (x1D x)) : ∃ t, v = .ref t ∧ H t = some (.tup (match x with | .num n => [.str "number", .int n] | .box b => [.str "box", .str (bxS b)])) := by
  cases x <;> simp only [x1D, Dat] at h <;> obtain ⟨t, vs, rfl, e, d⟩ := h <;> refine ⟨t, rfl, ?_⟩ <;> rw [e] <;>
  · match vs, d with
    | [a, b], d =>
      simp only [Dats, Dat, and_true] at d
      obtain ⟨rfl, rfl⟩ := d
      rfl
theorem at_two {p : Bool} {x y : Ex1} (h : Dat H v (exD (.two p x y))) : ∃ t a b, v = .ref t ∧ H t = some (.tup [.str (if p then "plus" else "minus"), a, b]) ∧ Dat H a (x1D x) ∧ Dat H b (x1D y) := by
  simp only [exD, Dat] at h
  obtain ⟨t, vs, rfl, e, d⟩ := h
  match vs, d with
  | [a, b, c], d =>
    simp only [Dats, Dat, and_true] at d
    obtain ⟨rfl, d1, d2⟩ := d
    exact ⟨t, _, _, rfl, e, d1, d2⟩
/-- what stands in a row, behind its word -/
def Parts (H : Hp) (vs : List V) : Rw → Prop
  | .load b c => vs = [.str "load", .str (bxS b), .int c]
  | .store c e => ∃ x, vs = [.str "store", .int c, x] ∧ Dat H x (exD e)
  | .swap b c e => ∃ x, vs = [.str "swap", .str (bxS b), .int c, x] ∧ Dat H x (exD e)
  | .lett b e => ∃ x, vs = [.str "let", .str (bxS b), x] ∧ Dat H x (exD e)
  | .say e => ∃ x, vs = [.str "say", x] ∧ Dat H x (exD e)
  | .go k => vs = [.str "go", .int k]
  | .unl q e f k => ∃ x y, vs = [.str "unless", .str (if q then "=" else "<"), x, y, .int k] ∧ Dat H x (exD e) ∧ Dat H y (exD f)
theorem at_rw {r : Rw} (h : Dat H v (rwD r)) : ∃ t vs, v = .ref t ∧ H t = some (.tup vs) ∧ Parts H vs r := by
  cases r <;> simp only [rwD, Dat] at h <;> obtain ⟨t, vs, rfl, e, d⟩ := h <;> refine ⟨t, vs, rfl, e, ?_⟩
  · match vs, d with
    | [a, b, c], d =>
      simp only [Dats, Dat, and_true] at d
      obtain ⟨rfl, rfl, rfl⟩ := d
      rfl
  · match vs, d with
    | [a, b, c], d =>
      simp only [Dats, Dat, and_true] at d
      obtain ⟨rfl, rfl, d⟩ := d
      exact ⟨_, rfl, d⟩
  · match vs, d with
    | [a, b, c, x], d =>
      simp only [Dats, Dat, and_true] at d
      obtain ⟨rfl, rfl, rfl, d⟩ := d
      exact ⟨_, rfl, d⟩
  · match vs, d with
    | [a, b, c], d =>
      simp only [Dats, Dat, and_true] at d
      obtain ⟨rfl, rfl, d⟩ := d
      exact ⟨_, rfl, d⟩
  · match vs, d with
    | [a, b], d =>
      simp only [Dats, Dat, and_true] at d
      obtain ⟨rfl, d⟩ := d
      exact ⟨_, rfl, d⟩
  · match vs, d with
    | [a, b], d =>
      simp only [Dats, Dat, and_true] at d
      obtain ⟨rfl, rfl⟩ := d
      rfl
  · match vs, d with
    | [a, b, c, x, y], d =>
      simp only [Dats, Dat, and_true] at d
      obtain ⟨rfl, rfl, d1, d2, rfl⟩ := d
      exact ⟨_, _, rfl, d1, d2⟩
end
/-! ### hands, going -/
def v1 (bs : List Int) : Ex1 → Int
  | .num n => n % 1000
  | .box b => (bs[b]?).getD 0
def vx (bs : List Int) : Exx → Int
  | .one x => v1 bs x
  | .two true x y => (v1 bs x + v1 bs y) % 1000
  | .two false x y => (v1 bs x - v1 bs y) % 1000
structure HandS where
  (rws : List Rw) (pos : Nat) (bs sy : List Int) (st : Str)
def touch : Rw → Bool
  | .load _ _ => true
  | .store _ _ => true
  | .swap _ _ _ => true
  | _ => false
def holdsR (bs : List Int) : Rw → Bool
  | .unl true e f _ => decide (vx bs e = vx bs f)
  | .unl false e f _ => decide (vx bs e < vx bs f)
  | _ => false
def doRow (s : HandS) : Rw → HandS
  | .lett b e => { s with pos := s.pos + 1, bs := s.bs.set b (vx s.bs e) }
  | .say e => { s with pos := s.pos + 1, sy := s.sy ++ [vx s.bs e] }
  | .go k => { s with pos := k }
  | .unl q e f k => { s with pos := if holdsR s.bs (.unl q e f k) then s.pos + 1 else k }
  | _ => s
def led : Nat → HandS → HandS
  | 0, s => match s.rws[s.pos]? with
    | none => { s with st := "ends" }
    | some r => if touch r then { s with st := "waits" } else { s with st := "lost" }
  | n + 1, s => match s.rws[s.pos]? with
    | none => { s with st := "ends" }
    | some r => if touch r then { s with st := "waits" } else led n (doRow s r)
def lead (s : HandS) : HandS := led 60 s
theorem doRow_rws (s : HandS) (r : Rw) : (doRow s r).rws = s.rws := by cases r <;> rfl
theorem doRow_sy (s : HandS) (r : Rw) : (doRow s r).sy.length ≤ s.sy.length + 1 := by cases r <;> simp [doRow]
theorem led_rws : ∀ (n : Nat) (s : HandS), (led n s).rws = s.rws
  | 0, s => by
    unfold led
    split
    · rfl
    · split <;> rfl
  | n + 1, s => by
    unfold led
    split
    · rfl
    · split
      · rfl
      · rw [led_rws, doRow_rws]
theorem led_sy : ∀ (n : Nat) (s : HandS), (led n s).sy.length ≤ s.sy.length + n
  | 0, s => by
    unfold led
    split
    · simp
    · split <;> simp
  | n + 1, s => by
    unfold led
    split
    · simp
    · split
      · simp
      · rename_i r _ _
        have := led_sy n (doRow s r)
        have := doRow_sy s r
        omega
/-- a hand that waits stands at a touch -/
def HOk (s : HandS) : Prop := s.st = "waits" → ∃ r, s.rws[s.pos]? = some r ∧ touch r = true
theorem ends_ne : (Str.ofString "ends") ≠ Str.ofString "waits" := by decide +kernel
theorem lost_ne : (Str.ofString "lost") ≠ Str.ofString "waits" := by decide +kernel
theorem led_ok : ∀ (n : Nat) (s : HandS), HOk (led n s)
  | 0, s => by
    unfold led HOk
    split
    · intro z; exact absurd z ends_ne
    · rename_i r e
      split
      · intro _; exact ⟨r, e, by assumption⟩
      · intro z; exact absurd z lost_ne
  | n + 1, s => by
    unfold led
    split
    · intro z; exact absurd z ends_ne
    · rename_i r e
      split
      · intro _; exact ⟨r, e, by assumption⟩
      · exact led_ok n _
def new (rws : List Rw) : HandS := ⟨rws, 0, List.replicate 8 0, [], "waits"⟩
/-! ### a works -/
structure WkS where
  (m : Nat) (ns : List Int) (hs : List HandS) (ts : List Int)
def cellR : Rw → Nat
  | .load _ c => c
  | .store c _ => c
  | .swap _ c _ => c
  | _ => 0
def wordR : Rw → Str
  | .load _ _ => "load"
  | .store _ _ => "store"
  | .swap _ _ _ => "swap"
  | .lett _ _ => "let"
  | .say _ => "say"
  | .go _ => "go"
  | .unl _ _ _ _ => "unless"
/-- what a touch reads, writes -/
def readR (ns : List Int) : Rw → Option Int
  | .load _ c => ns[c]?
  | .swap _ c _ => ns[c]?
  | _ => none
def writR (bs : List Int) : Rw → Option Int
  | .store _ e => some (vx bs e)
  | .swap _ _ e => some (vx bs e)
  | _ => none
def oV : Option Int → V
  | none => .non
  | some i => .int i
def oD : Option Int → PyData
  | none => .none
  | some i => .int i
def touchV (ns bs : List Int) (r : Rw) : List V := [.str (wordR r), .int (cellR r), oV (readR ns r), oV (writR bs r)]
def boxesR (ns bs : List Int) : Rw → List Int
  | .load b c => bs.set b ((ns[c]?).getD 0)
  | .swap b c _ => bs.set b ((ns[c]?).getD 0)
  | _ => bs
def cellsR (ns bs : List Int) : Rw → List Int
  | .store c e => ns.set c (vx bs e)
  | .swap _ c e => ns.set c (vx bs e)
  | _ => ns
def goneS (ns : List Int) (s : HandS) (r : Rw) : HandS := lead { s with pos := s.pos + 1, bs := boxesR ns s.bs r }
def turnS (S : WkS) (k : Nat) : WkS := match S.hs[k]? with
  | none => S
  | some s => match s.rws[s.pos]? with
    | none => S
    | some r => { S with ns := cellsR S.ns s.bs r, hs := S.hs.set k (goneS S.ns s r), ts := S.ts ++ [(k : Int)] }
def begS (m : Nat) (ns : List Int) (rws : List (List Rw)) : WkS := ⟨m, ns, rws.map fun r => lead (new r), []⟩
end Prf
namespace L2
open PySem Prf
theorem Dats.kp {H H' : Hp} {vs : List V} {rws : List Rw} (d : Dats H vs (rws.map rwD)) (t : ∀ x xs, H x = some (.tup xs) → H' x = some (.tup xs)) : Dats H' vs (rws.map rwD) := d.keep t _ (imms_map rwD imm_rw rws)
end L2
set_option Elab.async false
set_option linter.all false
set_option maxRecDepth 100000
set_option maxHeartbeats 4000000
namespace L2
open PySem PySem.Spec PyProof.Rows
section
variable {X : Cx} {k : Nat} {C : Addr} {sp : Sp}
end
end L2
set_option Elab.async false
set_option linter.all false
set_option maxRecDepth 100000
set_option maxHeartbeats 4000000
namespace L2
open PySem PySem.Spec PyProof.Rows
/-! ### zip of two tuples -/
section
variable {prog : Program} {w : World} {A : Around} {E : Value → Shared → Prop} {s : Shared}
theorem nxT {it t : Addr} {i : Nat} {its : Array Value} {x : Value} {Q : Value → Shared → Prop} (hi : s.heap.IsTupleIter it t i) (ht : s.heap.IsTuple t its) (hx : its[i]? = some x)
    (k : ∀ h', h'.IsTupleIter it t (i + 1) → Heap.SameBut it s.heap h' → Q x { s with heap := h' }) : wpAny (model prog w) A (Builtin.SmallTypes.nextOf (.ref it)) Q E s := by
  obtain ⟨ob, e1, e2, e3⟩ := id hi; obtain ⟨ot, f1, _, nn, f3⟩ := ht
  unfold Builtin.SmallTypes.nextOf
  refine wpAny_bind (wpAny_callSpecial?_slot (name := Str.ofString "__next__") hi.typeIs PySem.F.slot_tuple_iterator_next (wpAny_call_entry PySem.F.slot_tuple_iterator_next hi.typeIs PySem.F.entry_tuple_iterator_next ?_ (PySem.F.args_tuple_iterator_next_1 _)))
  show wpAny _ _ (field (.ref it) 0 >>= _) _ _ s; refine wpAny_bind (wpAny_field e1 e3 (x := .ref t) rfl ?_)
  show wpAny _ _ (if (Value.ref t == Value.none) = true then _ else _) _ _ s; rw [if_neg (show ¬ ((Value.ref t == Value.none) = true) from Bool.false_ne_true)]
  show wpAny _ _ (field (.ref it) 1 >>= _) _ _ s; refine wpAny_bind (wpAny_field e1 e3 (x := .int i 0) rfl ?_)
  show wpAny _ _ (seqItems? (.ref t) >>= _) _ _ s; refine wpAny_bind (wpAny_seqItems f1 f3 ?_)
  simp only [Int.toNat_natCast, hx]; refine wpAny_bind (wpAny_setField e1 e3 (by simp) (wpAny_pure ⟨x, rfl, wpAny_pure (k _ ?_ (Heap.SameBut.update ..))⟩))
  refine ⟨_, Heap.get?_update_self _ e1 (Obj.isFreed_of_fields (Obj.data_mapFields e3 _)), (Obj.cls_mapFields ..).trans e2, ?_⟩
  rw [Obj.data_mapFields e3]; simp [rawInt]
theorem nxTe {it t : Addr} {i : Nat} {its : Array Value} {Q : Value → Shared → Prop} (hh : A.handled = none) (hi : s.heap.IsTupleIter it t i) (ht : s.heap.IsTuple t its) (hx : its[i]? = none)
    (k : ∀ h' e, Heap.ExtBut it s.heap h' → (∃ o, h'.get? e = some o ∧ o.cls = .type "StopIteration") → E (.ref e) { s with heap := h' }) : wpAny (model prog w) A (Builtin.SmallTypes.nextOf (.ref it)) Q E s := by
  obtain ⟨ob, e1, e2, e3⟩ := id hi; obtain ⟨ot, f1, _, nn, f3⟩ := ht
  unfold Builtin.SmallTypes.nextOf
  refine wpAny_bind (wpAny_callSpecial?_slot (name := Str.ofString "__next__") hi.typeIs PySem.F.slot_tuple_iterator_next (wpAny_call_entry PySem.F.slot_tuple_iterator_next hi.typeIs PySem.F.entry_tuple_iterator_next ?_ (PySem.F.args_tuple_iterator_next_1 _)))
  show wpAny _ _ (field (.ref it) 0 >>= _) _ _ s; refine wpAny_bind (wpAny_field e1 e3 (x := .ref t) rfl ?_)
  show wpAny _ _ (if (Value.ref t == Value.none) = true then _ else _) _ _ s; rw [if_neg (show ¬ ((Value.ref t == Value.none) = true) from Bool.false_ne_true)]
  show wpAny _ _ (field (.ref it) 1 >>= _) _ _ s; refine wpAny_bind (wpAny_field e1 e3 (x := .int i 0) rfl ?_)
  show wpAny _ _ (seqItems? (.ref t) >>= _) _ _ s; refine wpAny_bind (wpAny_seqItems f1 f3 ?_)
  simp only [Int.toNat_natCast, hx]; refine wpAny_bind (wpAny_rule (wpAny_bind (wpAny_setField e1 e3 (by simp) ?_)))
  show wpAny _ _ (newExc (.type "StopIteration") [] >>= _) _ _ _; refine wpAny_bind ?_; simp only [newExc, newTuple]
  refine wpAny_bind (wpAny_newObj_type ?_ (by size_fits)); refine wpAny_bind (m := firstArgMember _ _) (wpAny_of_eq (a := Value.none) (by first | rfl | (simp only [firstArgMember]; rfl)) ?_)
  refine wpAny_newObj_type ?_ (by size_fits); simp only [raiseNew]; refine wpAny_bind (wpAny_handled ?_)
  first | rw [show A.in1.handled = none from hh] | rw [hh]
  refine wpAny_bind (wpAny_pure (wpAny_throw (k _ _ (((Heap.SameBut.update ..).extBut.push _).push _) ⟨_, Heap.get?_push_size _ rfl, rfl⟩)))
theorem ztNext {z TI TO i1 i2 l1 l2 : Addr} {k1 k2 : Nat} {xs ys : Array Value} {x y a b : Value} {Q : Option Value → Shared → Prop} (D : ZipApart z TI TO i1 i2 l1 l2) (hz : IsZip s.heap z TI TO .none) (hI : IsPair s.heap TI (.ref i1) (.ref i2)) (hO : IsPair s.heap TO a b)
    (h1 : s.heap.IsTupleIter i1 l1 k1) (h2 : s.heap.IsTupleIter i2 l2 k2) (m1 : s.heap.IsTuple l1 xs) (m2 : s.heap.IsTuple l2 ys) (hx : xs[k1]? = some x) (hy : ys[k2]? = some y)
    (k : ∀ h', IsZip h' z TI TO (rawInt s.heap.objs.size) → IsPair h' TO x y → h'.IsTupleIter i1 l1 (k1 + 1) → h'.IsTupleIter i2 l2 (k2 + 1) → IsPair h' s.heap.objs.size x y → h'.objs.size = s.heap.objs.size + 1 → (∀ c o, c ≠ z → c ≠ TO → c ≠ i1 → c ≠ i2 → s.heap.get? c = some o → h'.get? c = some o) → Q (some (.ref s.heap.objs.size)) { s with heap := h' }) :
    wpAny (model prog w) A (pyNext (.ref z)) Q E s := by
  have tz : s.TypeIs (.ref z) "zip" := ⟨_, hz, rfl⟩
  unfold pyNext; refine wpAny_bind (wpAny_attempt (wpAny_callSpecial?_slot (name := Str.ofString "__next__") tz PySem.F.slot_zip_next (wpAny_call_entry PySem.F.slot_zip_next tz PySem.F.entry_zip_next ?_ (PySem.F.args_zip_next_1 _))))
  show wpAny _ _ (field (.ref z) 2 >>= _) _ _ _; refine wpAny_bind (wpAny_field hz rfl (x := .bool false) rfl ?_)
  show wpAny _ _ (field (.ref z) 3 >>= _) _ _ _; refine wpAny_bind (wpAny_field hz rfl (x := .ref TI) rfl ?_); refine wpAny_bind (wpAny_seqItems hI rfl ?_)
  show wpAny _ _ (Builtin.SmallTypes.ownedTupleIsFree (.ref z) >>= _) _ _ _; refine wpAny_bind ?_; unfold Builtin.SmallTypes.ownedTupleIsFree
  refine wpAny_bind (wpAny_field hz rfl (x := .none) rfl (wpAny_pure ?_)); simp only [if_true]
  refine wpAny_bind (wpAny_rule (wpAny_bind (wpAny_field hz rfl (x := .ref TO) rfl ?_)))
  refine wpAny_bind (wpAny_setField_rec hz (by simp) fun g1 z1 s1 => ?_)
  replace z1 : IsZip g1 z TI TO .ellipsis := z1
  refine wpAny_bind ?_; simp only [List.zipIdx_cons, List.zipIdx_nil, List.forIn_cons, List.forIn_nil]
  refine wpAny_bind (wpAny_bind (wpAny_onRaise ?_)); show wpAny _ _ (Builtin.SmallTypes.nextOf (.ref i1) >>= _) _ _ _
  refine wpAny_bind (nxT (h1.extBut s1.extBut D.i1z) (m1.extBut s1.extBut D.l1z) hx fun g2 j1 s2 => wpAny_pure ?_)
  have O2 : IsPair g2 TO a b := s2.extBut _ _ D.TOi1 (s1.extBut _ _ D.TOz hO)
  refine wpAny_bind (wpAny_seqItems O2 rfl ?_); refine wpAny_bind (wpAny_updateSeq_pair O2 fun g3 O3 s3 => ?_)
  replace O3 : IsPair g3 TO x b := O3
  refine wpAny_bind (wpAny_letGo (wpAny_pure (wpAny_bind (wpAny_bind (wpAny_onRaise ?_))))); show wpAny _ _ (Builtin.SmallTypes.nextOf (.ref i2) >>= _) _ _ _
  refine wpAny_bind (nxT (((h2.extBut s1.extBut D.i2z).extBut s2.extBut D.i12.symm).extBut s3.extBut D.TOi2.symm) (((m2.extBut s1.extBut D.l2z).extBut s2.extBut D.l2i1).extBut s3.extBut D.l2TO) hy fun g4 j2 s4 => wpAny_pure ?_)
  have O4 : IsPair g4 TO x b := s4.extBut _ _ D.TOi2 O3
  refine wpAny_bind (wpAny_seqItems O4 rfl ?_); refine wpAny_bind (wpAny_updateSeq_pair O4 fun g5 O5 s5 => ?_)
  replace O5 : IsPair g5 TO x y := O5
  refine wpAny_bind (wpAny_letGo (wpAny_pure (wpAny_pure (wpAny_bind (wpAny_seqItems O5 rfl (wpAny_bind (wpAny_newTuple ?_)))))))
  have sz : g5.objs.size = s.heap.objs.size := by rw [s5.1, s4.1, s3.1, s2.1, s1.1]
  have z5 : IsZip g5 z TI TO .ellipsis := s5.extBut _ _ D.TOz.symm (s4.extBut _ _ D.i2z.symm (s3.extBut _ _ D.TOz.symm (s2.extBut _ _ D.i1z.symm z1)))
  have k5 : ∀ c o, c ≠ z → c ≠ TO → c ≠ i1 → c ≠ i2 → s.heap.get? c = some o → g5.get? c = some o := fun c o n1 n2 n3 n4 e => s5.extBut _ _ n2 (s4.extBut _ _ n4 (s3.extBut _ _ n2 (s2.extBut _ _ n3 (s1.extBut _ _ n1 e))))
  have p1 : g5.IsTupleIter i1 l1 (k1 + 1) := ((j1.extBut s3.extBut D.TOi1.symm).extBut s4.extBut D.i12).extBut s5.extBut D.TOi1.symm
  have p2 : g5.IsTupleIter i2 l2 (k2 + 1) := j2.extBut s5.extBut D.TOi2.symm
  have zlt : z < g5.objs.size := Heap.lt_size z5
  show wpAny _ _ (Builtin.SmallTypes.ownedTupleHandOut (.ref z) (.ref g5.objs.size) >>= _) _ _ _; refine wpAny_bind ?_; unfold Builtin.SmallTypes.ownedTupleHandOut
  have z6 : IsZip (g5.push { cls := .type "tuple", data := .seq #[x, y] }) z TI TO .ellipsis := Heap.get?_push_of_some _ z5
  refine wpAny_bind (wpAny_setField_rec z6 (by simp) fun g7 z7 s7 => ?_)
  replace z7 : IsZip g7 z TI TO (rawInt g5.objs.size) := z7
  refine wpAny_setField_rec z7 (by simp) fun g8 z8 s8 => ?_
  replace z8 : IsZip g8 z TI TO (rawInt g5.objs.size) := z8
  have up : ∀ c o, c ≠ z → g5.get? c = some o → g8.get? c = some o := fun c o n1 e => s8.extBut _ _ n1 (s7.extBut _ _ n1 (Heap.get?_push_of_some _ e))
  have t8 : IsPair g8 g5.objs.size x y := s8.extBut _ _ (Nat.ne_of_gt zlt) (s7.extBut _ _ (Nat.ne_of_gt zlt) (Heap.get?_push_size _ rfl))
  have e8 : g8.objs.size = g5.objs.size + 1 := by rw [s8.1, s7.1, Heap.size_push]
  rw [sz] at z8 t8 e8
  refine wpAny_pure ⟨_, rfl, wpAny_pure ?_⟩
  show Q (some (.ref g5.objs.size)) _
  rw [sz]
  refine k g8 z8 (up _ _ D.TOz O5) ?_ ?_ t8 e8 fun c o n1 n2 n3 n4 e => up c o n1 (k5 c o n1 n2 n3 n4 e)
  · obtain ⟨o, e, r⟩ := p1; exact ⟨o, up _ _ D.i1z e, r⟩
  · obtain ⟨o, e, r⟩ := p2; exact ⟨o, up _ _ D.i2z e, r⟩
theorem ztEnd {z TI TO i1 i2 l1 l2 : Addr} {k1 k2 : Nat} {xs ys : Array Value} {a b : Value} {Q : Option Value → Shared → Prop} (hh : A.handled = none) (D : ZipApart z TI TO i1 i2 l1 l2) (hz : IsZip s.heap z TI TO .none) (hI : IsPair s.heap TI (.ref i1) (.ref i2)) (hO : IsPair s.heap TO a b)
    (h1 : s.heap.IsTupleIter i1 l1 k1) (h2 : s.heap.IsTupleIter i2 l2 k2) (m1 : s.heap.IsTuple l1 xs) (m2 : s.heap.IsTuple l2 ys) (hx : xs[k1]? = none)
    (k : ∀ h', (∀ c o, c ≠ z → c ≠ TO → c ≠ i1 → c ≠ i2 → s.heap.get? c = some o → h'.get? c = some o) → Q none { s with heap := h' }) : wpAny (model prog w) A (pyNext (.ref z)) Q E s := by
  have tz : s.TypeIs (.ref z) "zip" := ⟨_, hz, rfl⟩
  have stop : ∀ (h' : Heap) (e : Addr), (∀ c o, c ≠ z → c ≠ TO → c ≠ i1 → c ≠ i2 → s.heap.get? c = some o → h'.get? c = some o) → (∃ o, h'.get? e = some o ∧ o.cls = .type "StopIteration") → wpAny (model prog w) A (do if ← isInstance (.ref e) (.type "StopIteration") then pure none else throw (.ref e)) Q E { s with heap := h' } := fun h' e hk he => by
    obtain ⟨o, ho, hc⟩ := he
    exact wpAny_bind (wpAny_isInstance (T := "StopIteration") (b := true) ⟨o, ho, hc⟩ isSubtype_stop (wpAny_pure (k _ hk)))
  unfold pyNext; refine wpAny_bind (wpAny_attempt (wpAny_callSpecial?_slot (name := Str.ofString "__next__") tz PySem.F.slot_zip_next (wpAny_call_entry PySem.F.slot_zip_next tz PySem.F.entry_zip_next ?_ (PySem.F.args_zip_next_1 _))))
  show wpAny _ _ (field (.ref z) 2 >>= _) _ _ _; refine wpAny_bind (wpAny_field hz rfl (x := .bool false) rfl ?_)
  show wpAny _ _ (field (.ref z) 3 >>= _) _ _ _; refine wpAny_bind (wpAny_field hz rfl (x := .ref TI) rfl ?_); refine wpAny_bind (wpAny_seqItems hI rfl ?_)
  show wpAny _ _ (Builtin.SmallTypes.ownedTupleIsFree (.ref z) >>= _) _ _ _; refine wpAny_bind ?_; unfold Builtin.SmallTypes.ownedTupleIsFree
  refine wpAny_bind (wpAny_field hz rfl (x := .none) rfl (wpAny_pure ?_)); simp only [if_true]
  refine wpAny_bind (wpAny_rule (wpAny_bind (wpAny_field hz rfl (x := .ref TO) rfl ?_)))
  refine wpAny_bind (wpAny_setField_rec hz (by simp) fun g1 z1 s1 => ?_)
  replace z1 : IsZip g1 z TI TO .ellipsis := z1
  refine wpAny_bind ?_; simp only [List.zipIdx_cons, List.zipIdx_nil, List.forIn_cons, List.forIn_nil]
  refine wpAny_bind (wpAny_bind (wpAny_onRaise ?_)); show wpAny _ _ (Builtin.SmallTypes.nextOf (.ref i1) >>= _) _ _ _
  refine wpAny_bind (nxTe hh (h1.extBut s1.extBut D.i1z) (m1.extBut s1.extBut D.l1z) hx fun g2 e s2 he => ?_)
  obtain ⟨oe, hoe, hce⟩ := he
  have z2 : IsZip g2 z TI TO .ellipsis := s2 _ _ D.i1z.symm z1
  have nez : e ≠ z := fun q => by subst q; rw [z2] at hoe; cases hoe; simp at hce
  refine wpAny_setField_rec z2 (by simp) fun g3 _ s3 => ?_
  obtain st := stop g3 e (fun c o n1 _ n3 _ q => s3.extBut _ _ n1 (s2 _ _ n3 (s1.extBut _ _ n1 q))) ⟨oe, s3.extBut _ _ nez hoe, hce⟩
  exact st
end
end L2
set_option Elab.async false
set_option linter.all false
set_option maxRecDepth 100000
set_option maxHeartbeats 4000000
namespace L2
open PySem PySem.Spec PyProof.Rows
abbrev ztI (l : Addr) : Obj := { cls := .type "tuple_iterator", data := .fields #[.ref l, .int 0 0] }
abbrev zt3 (h : Heap) (l1 l2 : Addr) : Heap := ((h.push (ztI l1)).push (ztI l2)).push { cls := .type "tuple", data := .seq #[.ref h.objs.size, .ref (h.push (ztI l1)).objs.size] }
abbrev zt4 (h : Heap) (l1 l2 : Addr) : Heap := (zt3 h l1 l2).push { cls := .type "tuple", data := .seq #[.none, .none] }
abbrev zt5 (h : Heap) (l1 l2 : Addr) : Heap := (zt4 h l1 l2).push { cls := .type "zip", data := .fields #[.none, .bool false, .bool false, .ref ((h.push (ztI l1)).push (ztI l2)).objs.size, .ref (zt3 h l1 l2).objs.size] }
theorem ztNew (l1 l2 : Addr) (xs ys : Array Value) : Meets (Builtin.«zip.__new__» ⟨[.type "zip", .ref l1, .ref l2], []⟩) (fun _ R s => s.heap.IsTuple l1 xs ∧ s.heap.IsTuple l2 ys ∧ R (.ok (.ret (.ref (zt4 s.heap l1 l2).objs.size))) { s with heap := zt5 s.heap l1 l2 }) :=
  .of_wp fun prog w A R s h => by
    obtain ⟨hp, g, d, tk, os⟩ := s; obtain ⟨m1, m2, h⟩ := h
    have sub := sub_zip
    have M1 : Heap.IsTuple (Shared.heap ⟨hp, g, d, tk, os⟩) l1 xs := m1
    have M2 : Heap.IsTuple (Shared.heap ⟨hp.push { cls := .type "tuple_iterator", data := .fields #[.ref l1, .int 0 0] }, g, d, tk, os⟩) l2 ys := Heap.IsTuple.push m2 _
    wp_walk using wpAny_pyIter_tuple M1, wpAny_pyIter_tuple M2
    exact ⟨_, rfl, h⟩
section
variable {prog : Program} {w : World} {A : Around} {E : Value → Shared → Prop} {s : Shared}
theorem ztCall {l1 l2 : Addr} {xs ys : Array Value} {Q : Value → Shared → Prop} (m1 : s.heap.IsTuple l1 xs) (m2 : s.heap.IsTuple l2 ys)
    (k : ∀ h', IsZip h' (s.heap.objs.size + 4) (s.heap.objs.size + 2) (s.heap.objs.size + 3) .none → IsPair h' (s.heap.objs.size + 2) (.ref s.heap.objs.size) (.ref (s.heap.objs.size + 1)) → IsPair h' (s.heap.objs.size + 3) .none .none → h'.IsTupleIter s.heap.objs.size l1 0 → h'.IsTupleIter (s.heap.objs.size + 1) l2 0 →
      (∀ c o, s.heap.get? c = some o → h'.get? c = some o) → Q (.ref (s.heap.objs.size + 4)) { s with heap := h' }) : wpAny (model prog w) A (call (.type "zip") [.ref l1, .ref l2]) Q E s := by
  refine callType_new PySem.F.called_zip (by decide) (PySem.F.typeCall_zip_2 _ _) (PySem.F.newCall_zip_2 _ _) (fun obj => PySem.F.args_object_init_3 obj _ _) PySem.F.entry_zip_new (ztNew l1 l2 xs ys) ⟨m1, m2, ?_⟩
  have n1 : (s.heap.push (ztI l1)).objs.size = s.heap.objs.size + 1 := Heap.size_push ..
  have n2 : ((s.heap.push (ztI l1)).push (ztI l2)).objs.size = s.heap.objs.size + 2 := by rw [Heap.size_push, n1]
  have n3 : (zt3 s.heap l1 l2).objs.size = s.heap.objs.size + 3 := by rw [Heap.size_push, n2]
  have n4 : (zt4 s.heap l1 l2).objs.size = s.heap.objs.size + 4 := by rw [Heap.size_push, n3]
  have e5 : (zt5 s.heap l1 l2).get? (zt4 s.heap l1 l2).objs.size = some _ := Heap.get?_push_size _ rfl
  have e4 : (zt5 s.heap l1 l2).get? (zt3 s.heap l1 l2).objs.size = some _ := Heap.get?_push_of_some _ (Heap.get?_push_size _ rfl)
  have e3 : (zt5 s.heap l1 l2).get? ((s.heap.push (ztI l1)).push (ztI l2)).objs.size = some _ := Heap.get?_push_of_some _ (Heap.get?_push_of_some _ (Heap.get?_push_size _ rfl))
  have e2 : (zt5 s.heap l1 l2).get? (s.heap.push (ztI l1)).objs.size = some _ := Heap.get?_push_of_some _ (Heap.get?_push_of_some _ (Heap.get?_push_of_some _ (Heap.get?_push_size _ rfl)))
  have e1 : (zt5 s.heap l1 l2).get? s.heap.objs.size = some _ := Heap.get?_push_of_some _ (Heap.get?_push_of_some _ (Heap.get?_push_of_some _ (Heap.get?_push_of_some _ (Heap.get?_push_size _ rfl))))
  show _ ∧ _
  rw [n2, n3, n4] at e5
  rw [n1, n2] at e3
  rw [n3] at e4
  rw [n1] at e2
  rw [n4]
  refine ⟨⟨_, e5, rfl⟩, k _ e5 e3 e4 ⟨_, e1, rfl, rfl⟩ ⟨_, e2, rfl, rfl⟩ fun c o q => ?_⟩
  iterate 5 refine Heap.get?_push_of_some _ ?_
  exact q
end
def ItzT (K : PySem.W.Frag) (l1 l2 : Addr) : It :=
  ⟨fun i H => ∃ xs ys x y, SqT K H l1 xs ∧ SqT K H l2 ys ∧ xs[i]? = some x ∧ ys[i]? = some y,
   fun i H x H' => ∃ (p : Addr) (y z : V), x = .ref p ∧ H p = none ∧ (∀ xs, SqT K H l1 xs → xs[i]? = some y) ∧ (∀ ys, SqT K H l2 ys → ys[i]? = some z) ∧ H' = upd H p (.tup [y, z]),
   fun i H => ∃ xs ys, SqT K H l1 xs ∧ SqT K H l2 ys ∧ xs.length ≤ i⟩
theorem turn_zipT {P : Program} {w : World} {K : PySem.W.Frag} {elts : List Expr} {x1 : Nat} {pos : Pos} (z TI TO i1 i2 l1 l2 : Addr) (ap : ZipApart z TI TO i1 i2 l1 l2) : Turn P w K (.Tuple elts x1 pos) (ItzT K l1 l2) [z, TI, TO, i1, i2] z
    (fun i h => IsZip h z TI TO .none ∧ IsPair h TI (.ref i1) (.ref i2) ∧ (∃ a b, IsPair h TO a b) ∧ h.IsTupleIter i1 l1 i ∧ h.IsTupleIter i2 l2 i) where
  mem := by simp
  obj := fun i h st b hb => by
    obtain ⟨hz, hTI, ⟨a, c, hTO⟩, ⟨o1, h1, c1, d1⟩, ⟨o2, h2, c2, d2⟩⟩ := st
    have hb' : b = z ∨ b = TI ∨ b = TO ∨ b = i1 ∨ b = i2 := by simpa using hb
    rcases hb' with rfl | rfl | rfl | rfl | rfl
    · exact ⟨_, hz, fun v z => by cases z⟩
    · exact ⟨_, hTI, fun v z => by cases z⟩
    · exact ⟨_, hTO, fun v z => by cases z⟩
    · exact ⟨_, h1, fun v z => by rw [d1] at z; cases z⟩
    · exact ⟨_, h2, fun v z => by rw [d2] at z; cases z⟩
  keep := fun i h h' st k => by
    obtain ⟨hz, hTI, ⟨a, c, hTO⟩, ⟨o1, h1, c1, d1⟩, ⟨o2, h2, c2, d2⟩⟩ := st
    exact ⟨k z (by simp) _ hz, k TI (by simp) _ hTI, ⟨a, c, k TO (by simp) _ hTO⟩, ⟨o1, k i1 (by simp) _ h1, c1, d1⟩, ⟨o2, k i2 (by simp) _ h2, c2, d2⟩⟩
  item := by
    intro X hP hw hK hc i pins s σ H E I hf st hg
    subst hP hw hK
    obtain ⟨xs, ys, x, y, hq1, hq2, hx, hy⟩ := hg
    obtain ⟨its1, rv1, p1, hz1⟩ := I.tuple hq1
    obtain ⟨its2, rv2, p2, hz2⟩ := I.tuple hq2
    obtain ⟨u1, hu1, ru1⟩ := rv1.get hx
    obtain ⟨u2, hu2, ru2⟩ := rv2.get hy
    obtain ⟨hz, hTI, ⟨a, c, hTO⟩, hi1, hi2⟩ := st
    have zlt := Heap.lt_size hz
    have TIlt := Heap.lt_size hTI
    have TOlt := Heap.lt_size hTO
    have i1lt : i1 < s.heap.objs.size := by obtain ⟨o, ho, _⟩ := id hi1; exact Heap.lt_size ho
    have i2lt : i2 < s.heap.objs.size := by obtain ⟨o, ho, _⟩ := id hi2; exact Heap.lt_size ho
    refine ztNext ap hz hTI hTO hi1 hi2 (show s.heap.IsTuple l1 its1.toArray from p1) (show s.heap.IsTuple l2 its2.toArray from p2) (x := u1) (y := u2) (by simpa using hu1) (by simpa using hu2) fun h' hz' hTO' hi1' hi2' hnew hsz hk => ?_
    refine ⟨_, rfl, ?_⟩
    refine wpAny_letOwnedTupleGo_zip hz' fun h2 hz2' sb => ?_
    have hfr : H s.heap.objs.size = none := I.hok.fresh (Nat.le_refl _)
    have I0 : Inv X pins σ (upd H s.heap.objs.size (.tup [x, y])) { s with heap := s.heap.push { cls := .type "tuple", data := .seq #[u1, u2] } } :=
      I.laid (t' := s.toks) (fun b u e => Heap.get?_push_of_some _ e) (Nat.le_refl _) ⟨by show 2 ≤ sizeLine; decide, [u1, u2], .cons ru1 (.cons ru2 .nil), ⟨_, Heap.get?_push_size _ rfl, rfl, _, rfl⟩⟩
    have hf0 : ∀ b ∈ [z, TI, TO, i1, i2], FpOk X pins (upd H s.heap.objs.size (.tup [x, y])) b := fun b hb => by
      refine (hf b hb).upd ?_
      have hb' : b = z ∨ b = TI ∨ b = TO ∨ b = i1 ∨ b = i2 := by simpa using hb
      rcases hb' with rfl | rfl | rfl | rfl | rfl
      · exact Nat.ne_of_lt zlt
      · exact Nat.ne_of_lt TIlt
      · exact Nat.ne_of_lt TOlt
      · exact Nat.ne_of_lt i1lt
      · exact Nat.ne_of_lt i2lt
    have I1 := I0.turnedL (h' := h2) (t' := s.toks) hf0 (fun b o hb eb => by
      have b1 : b ≠ z := fun e => hb (by simp [e])
      have b2 : b ≠ TO := fun e => hb (by simp [e])
      have b3 : b ≠ i1 := fun e => hb (by simp [e])
      have b4 : b ≠ i2 := fun e => hb (by simp [e])
      rw [sb.2 b b1]
      rcases get_push rfl eb with ⟨rfl, rfl⟩ | eb
      · exact hnew
      · exact hk b o b1 b2 b3 b4 eb)
    refine ⟨.ref s.heap.objs.size, _, I1, rfl, ⟨s.heap.objs.size, x, y, rfl, hfr, fun ys hy => by rw [I.tuple_inj hy hq1]; exact hx, fun ys' hy' => by rw [I.tuple_inj hy' hq2]; exact hy, rfl⟩, ?_, fun b hb => (hf0 b hb).1⟩
    obtain ⟨o1, ho1, c1, d1⟩ := hi1'
    obtain ⟨o2, ho2, c2, d2⟩ := hi2'
    exact ⟨hz2', (sb.2 TI ap.TIz).trans (hk TI _ ap.TIz ap.TITO ap.TIi1 ap.TIi2 hTI), ⟨_, _, (sb.2 TO ap.TOz).trans hTO'⟩, ⟨o1, (sb.2 i1 ap.i1z).trans ho1, c1, d1⟩, ⟨o2, (sb.2 i2 ap.i2z).trans ho2, c2, d2⟩⟩
  done := by
    intro X hP hw hK hc i pins s σ H E I hf st hg
    subst hP hw hK
    obtain ⟨xs, ys, hq1, hq2, hx⟩ := hg
    obtain ⟨its1, rv1, p1, hz1⟩ := I.tuple hq1
    obtain ⟨its2, rv2, p2, hz2⟩ := I.tuple hq2
    obtain ⟨hz, hTI, ⟨a, c, hTO⟩, hi1, hi2⟩ := st
    have hl1 := rv1.length
    refine ztEnd (I.ok.hd hc) ap hz hTI hTO hi1 hi2 (show s.heap.IsTuple l1 its1.toArray from p1) (show s.heap.IsTuple l2 its2.toArray from p2) (by simp; omega) fun h' eb => ⟨rfl, I.turnedL (t' := s.toks) hf (fun b o hb e => eb b o (fun z => hb (by simp [z])) (fun z => hb (by simp [z])) (fun z => hb (by simp [z])) (fun z => hb (by simp [z])) e)⟩
  self := fun _ _ _ _ _ st h => wpAny_pyIter_zip st.1 h
section
variable {X : Cx}
/-- zip of two lists, or of two tuples -/
def iZipA (K : PySem.W.Frag) (ta : TA) : TI := fun σ H R => ta σ H fun vs H1 => ∃ l1 l2 xs ys, vs = [.ref l1, .ref l2] ∧ ((SqL K H1 l1 xs ∧ SqL K H1 l2 ys ∧ R (Itz K l1 l2) H1) ∨ (SqT K H1 l1 xs ∧ SqT K H1 l2 ys ∧ R (ItzT K l1 l2) H1))
theorem pi_zipA {K : PySem.W.Frag} {a b : Expr} {ta : TA} {p pos : Pos} {elts : List Expr} {x1 : Nat} {tpos : Pos} (hK : X.K = K) (hg : Gl X "zip") (hm : X.mg "zip" = none) (ha : PA X [a, b] ta) (hs : starEach [a, b] X.env = [(false, eval a X.env), (false, eval b X.env)] := by rfl) (hs2 : starEach [b] X.env = [(false, eval b X.env)] := by rfl) : PI X (.Tuple elts x1 tpos) (.Call (.Name "zip" p) [a, b] [] pos) (iZipA K ta) := by
  subst hK
  intro pins s σ H R I h
  refine Call_ (ld_blt I hg hm boot_zip (PyProof.Rows.callWith_type1 (thn (ha pos pins s σ H _ I h) fun us s1 ⟨vs, H1, I1, r1, q1⟩ => ?_) (by rw [hs, hs2]) (by rw [hs2]; rfl)))
  obtain ⟨l1, l2, xs, ys, e, q1⟩ := q1
  subst e
  obtain ⟨u1, us', rfl, r, rr⟩ : ∃ u1 us', us = u1 :: us' ∧ RelV (.ref l1) u1 ∧ Vals [.ref l2] us' := by
    cases r1 with
    | cons r rr => exact ⟨_, _, rfl, r, rr⟩
  obtain ⟨u2, rfl, r'⟩ := rr.one
  cases r
  cases r'
  have newB : ∀ b ∈ [s1.heap.objs.size + 4, s1.heap.objs.size + 2, s1.heap.objs.size + 3, s1.heap.objs.size, s1.heap.objs.size + 1], s1.heap.objs.size ≤ b := fun b hb => by
    have : b = s1.heap.objs.size + 4 ∨ b = s1.heap.objs.size + 2 ∨ b = s1.heap.objs.size + 3 ∨ b = s1.heap.objs.size ∨ b = s1.heap.objs.size + 1 := by simpa using hb
    rcases this with rfl | rfl | rfl | rfl | rfl
    · exact Nat.le_add_right _ _
    · exact Nat.le_add_right _ _
    · exact Nat.le_add_right _ _
    · exact Nat.le_refl _
    · exact Nat.le_add_right _ _
  rcases q1 with ⟨hq1, hq2, q⟩ | ⟨hq1, hq2, q⟩
  · obtain ⟨its1, rv1, pl1, hz1⟩ := I1.list hq1
    obtain ⟨its2, rv2, pl2, hz2⟩ := I1.list hq2
    have lt1 : l1 < s1.heap.objs.size := by obtain ⟨o, ho, _⟩ := pl1.isList; exact Heap.lt_size ho
    have lt2 : l2 < s1.heap.objs.size := by obtain ⟨o, ho, _⟩ := pl2.isList; exact Heap.lt_size ho
    refine call_zip_2 pl1.isList pl2.isList fun h' hZ hTI hTO hi1 hi2 hsz hk => ?_
    refine wpAny_pyIter_zip hZ ?_
    have I2 : Inv X pins σ H1 { s1 with heap := h' } := I1.kept (t' := s1.toks) hk
    exact ⟨s1.heap.objs.size + 4, [s1.heap.objs.size + 4, s1.heap.objs.size + 2, s1.heap.objs.size + 3, s1.heap.objs.size, s1.heap.objs.size + 1], _, _, H1, rfl, I2, turn_zip _ _ _ _ _ l1 l2 (zipApart_new lt1 lt2), ⟨hZ, hTI, ⟨_, _, hTO⟩, hi1, hi2⟩, fun b hb => I1.fpOk (newB b hb) (I1.hok.fresh (newB b hb)), q⟩
  · obtain ⟨its1, rv1, pl1, hz1⟩ := I1.tuple hq1
    obtain ⟨its2, rv2, pl2, hz2⟩ := I1.tuple hq2
    have m1 : s1.heap.IsTuple l1 its1.toArray := pl1
    have m2 : s1.heap.IsTuple l2 its2.toArray := pl2
    have lt1 : l1 < s1.heap.objs.size := by obtain ⟨o, ho, _⟩ := id m1; exact Heap.lt_size ho
    have lt2 : l2 < s1.heap.objs.size := by obtain ⟨o, ho, _⟩ := id m2; exact Heap.lt_size ho
    refine ztCall m1 m2 fun h' hZ hTI hTO hi1 hi2 hk => ?_
    refine wpAny_pyIter_zip hZ ?_
    have I2 : Inv X pins σ H1 { s1 with heap := h' } := I1.kept (t' := s1.toks) hk
    exact ⟨s1.heap.objs.size + 4, [s1.heap.objs.size + 4, s1.heap.objs.size + 2, s1.heap.objs.size + 3, s1.heap.objs.size, s1.heap.objs.size + 1], _, _, H1, rfl, I2, turn_zipT _ _ _ _ _ l1 l2 (zipApart_new lt1 lt2), ⟨hZ, hTI, ⟨_, _, hTO⟩, hi1, hi2⟩, fun b hb => I1.fpOk (newB b hb) (I1.hok.fresh (newB b hb)), q⟩
end
section
variable {K : PySem.W.Frag} {D : Addr} {xs : List V} {tc : TT} {te : TE} {Q : VK} {rest : St} {H1 : Hp}
theorem comp_valZT {l1 l2 : Addr} {ys : List V} {n : Nat} (hn1 : xs.length = n) (hn2 : ys.length = n) (f : Nat → Option V) (hD : H1 D = none) (hq1 : H1 l1 = some (.tup xs)) (hq2 : H1 l2 = some (.tup ys)) (hx : n ≤ 100000)
    (hs : ∀ i x y H (G : Hp → Prop) (F : VK), xs[i]? = some x → ys[i]? = some y → Same H1 H → (∀ H', Same H H' → f i = none → G H') → (∀ y H', Same H H' → f i = some y → F y H') → tc (some x :: some y :: rest) H fun b H3 => if b = true then te (some x :: some y :: rest) H3 F else G H3)
    (hd : ∀ H, Same H1 H → H D = some (.lst ((List.range n).filterMap f)) → Q (.ref D) H) : CompW (ItzT K l1 l2) (gTup K 2 (gCons (gName 0) (gCons (gName 1) gNil))) tc te Q D (none :: none :: rest) H1 := by
  refine ⟨fun i m σ H => m = n - i ∧ i ≤ n ∧ (∃ u v, σ = u :: v :: rest) ∧ Same H1 H ∧ H D = some (.lst ((List.range i).filterMap f)), ⟨n, by simp, Nat.zero_le _, ⟨none, none, rfl⟩, same_new hD, upd_same⟩, ?_⟩
  rintro i m σ H ⟨rfl, hi, ⟨u, v, rfl⟩, sm, e⟩
  by_cases hlt : i < n
  · have q1 : SqT K H l1 xs := SqT.of (sm _ _ hq1)
    have q2 : SqT K H l2 ys := SqT.of (sm _ _ hq2)
    have hx1 : xs[i]? = some (xs[i]'(by omega)) := List.getElem?_eq_getElem _
    have hy1 : ys[i]? = some (ys[i]'(by omega)) := List.getElem?_eq_getElem _
    refine .inr ⟨⟨xs, ys, _, _, q1, q2, hx1, hy1⟩, fun σ' H' => (∃ u v, σ' = u :: v :: rest) ∧ Same H1 H' ∧ H' D = some (.lst ((List.range (i + 1)).filterMap f)), fun σ' H' p' => ⟨n - (i + 1), by omega, rfl, hlt, p'⟩, ?_⟩
    rintro x H' ⟨p, y, z, rfl, hp, e1, e2, rfl⟩
    have sp := same_new (o := HO.tup [y, z]) hp
    refine ⟨p, [y, z], rfl, SqT.of upd_same, rfl, _, _, rfl, _, _, rfl, rfl, ?_⟩
    refine hs i y z _ _ _ (e1 _ q1) (e2 _ q2) (sm.trans sp) (fun H3 s3 ef => ⟨⟨_, _, rfl⟩, (sm.trans sp).trans s3, by rw [s3 _ _ (sp _ _ e), fm_succ, ef]; simp⟩) (fun y H4 s4 ef => ?_)
    refine ⟨_, s4 _ _ (sp _ _ e), ?_, ⟨_, _, rfl⟩, ((sm.trans sp).trans s4).newly hD, ?_⟩
    · have := fm_len f i
      rw [sizeLine_eq]; omega
    · rw [upd_same, fm_succ, ef]; rfl
  · have ei : i = n := by omega
    subst ei
    exact .inl ⟨⟨xs, ys, SqT.of (sm _ _ hq1), SqT.of (sm _ _ hq2), by omega⟩, hd H sm e⟩
end
end L2
set_option Elab.async false
set_option linter.all false
set_option maxRecDepth 100000
set_option maxHeartbeats 4000000
namespace Prf
open PySem L2
/-! ### numbers stay in their bounds -/
def inR (x : Int) : Prop := 0 ≤ x ∧ x < 1000
def allR (l : List Int) : Prop := ∀ x ∈ l, inR x
/-! ### what is told of a works, as data -/
mutual
theorem eqv_self : ∀ d : PyData, d.canLay0 = true → PyData.eqv d d = true
  | .none, _ => rfl
  | .bool b, _ => by simp [PyData.eqv]
  | .int i, _ => by simp [PyData.eqv]
  | .str x, _ => by simp [PyData.eqv]
  | .list ds, h => by simp only [PyData.eqv]; exact eqv_selfs ds (by simpa [PyData.canLay0] using h)
  | .tuple ds, h => by simp only [PyData.eqv]; exact eqv_selfs ds (by simpa [PyData.canLay0] using h)
  | .dict _, h => by simp [PyData.canLay0] at h
theorem eqv_selfs : ∀ ds : List PyData, PyData.canLayAll0 ds = true → PyData.eqvAll ds ds = true
  | [], _ => rfl
  | d :: ds, h => by
    simp only [PyData.canLayAll0, Bool.and_eq_true] at h
    simp only [PyData.eqvAll, Bool.and_eq_true]
    exact ⟨eqv_self d h.1, eqv_selfs ds h.2⟩
end
/-! ### neighbours exchanged -/
def isLoad : Rw → Bool
  | .load _ _ => true
  | _ => false
def apart (r q : Rw) : Prop := cellR r ≠ cellR q ∨ (isLoad r = true ∧ isLoad q = true)
end Prf
set_option Elab.async false
set_option linter.all false
set_option maxRecDepth 100000
set_option maxHeartbeats 4000000
namespace L2
open PySem
/-! ### what is new at a heap -/
section
variable {K : PySem.W.Frag} {a D : Addr} {xs : List V} {te : TE} {Q : VK} {rest : St} {H1 : Hp}
end
end L2
set_option Elab.async false
set_option linter.all false
set_option maxRecDepth 100000
set_option maxHeartbeats 4000000
namespace L2
open PySem PySem.Spec PyProof.Rows
/-- a, b, c = x, y, z with plain local names -/
def tPar3 (i j l : Nat) (ta : TA) : TS := fun D σ H => ta σ H fun vs H1 => ∃ v1 v2 v3, vs = [v1, v2, v3] ∧ D.nx (((σ.set i (some v1)).set j (some v2)).set l (some v3)) H1
theorem ps_par3 {X : Cx} {pos : Pos} {i j l : Nat} {x y z : Str} {a b c : Expr} {ta : TA} {px py pz pt : Pos} {kt k2 pt2} (hc : X.calm = true) (hN : X.N.Nodup) (hi : X.N[i]? = some x) (hj : X.N[j]? = some y) (hl : X.N[l]? = some z) (hij : i ≠ j) (hil : i ≠ l) (hjl : j ≠ l)
    (hx : X.env.scope.names.lookup x = some .local) (hy : X.env.scope.names.lookup y = some .local) (hz : X.env.scope.names.lookup z = some .local) (ha : PA X [a, b, c] ta)
    (hw : swappedStores [.Tuple [.Name x px, .Name y py, .Name z pz] kt pt] (.Tuple [a, b, c] k2 pt2) X.env = pure (some [x, y, z]))
    (hs : swapsWithSole [.Tuple [.Name x px, .Name y py, .Name z pz] kt pt] (.Tuple [a, b, c] k2 pt2) pos.line X.env = pure false := by rfl) :
    PS X (.Assign [.Tuple [.Name x px, .Name y py, .Name z pz] kt pt] (.Tuple [a, b, c] k2 pt2) pos) (tPar3 i j l ta) := by
  intro pins s0 st H D I0 h
  rw [exec_Assign_arm]
  refine wpAny_bind (wpAny_standAt ?_); rw [hs]
  refine wpAny_bind (wpAny_pure ?_); rw [if_neg (by decide)]
  refine wpAny_bind (Tuple_ (thn (ha _ pins s0 st H _ I0 h) fun us t1 ⟨vs, G1, J1, rr, q1⟩ => ?_))
  obtain ⟨v1, v2, v3, rfl, q1⟩ := q1
  obtain ⟨u1, u2, u3, rfl, r1, r2, r3⟩ : ∃ u1 u2 u3, us = [u1, u2, u3] ∧ RelV v1 u1 ∧ RelV v2 u2 ∧ RelV v3 u3 := by
    cases rr with
    | cons p1 q => cases q with
      | cons p2 q => cases q with
        | cons p3 q => cases q; exact ⟨_, _, _, rfl, p1, p2, p3⟩
  refine wpAny_newObj_type ?_ (by show 3 ≤ sizeLine; decide)
  have J2 : Inv X pins st G1 { t1 with heap := t1.heap.push { cls := .type "tuple", data := .seq [u1, u2, u3].toArray } } := J1.kept (t' := t1.toks) fun b o e => Heap.get?_push_of_some _ e
  rw [hw]
  refine wpAny_bind (wpAny_pure ?_)
  show wpAny (model X.prog X.w) X.A (do rule "assign.swapped-stores"; let its ← unpackItems (.ref t1.heap.objs.size) 3 none; assignInOrder [fun v => bindName X.env z v, fun v => bindName X.env y v, fun v => bindName X.env x v] its.reverse; pure Flow.next) _ _ _
  refine wpAny_bind (wpAny_rule (wpAny_bind (unpackItems_tuple (items := #[u1, u2, u3]) (I0.ok.hd hc) (IsTup.new t1.heap _) fun g' hg' => ?_)))
  have J3 := J2.kept (h' := g') (t' := t1.toks) fun b o e => hg' b o (Nat.ne_of_lt (Heap.lt_size e)) e
  show wpAny _ _ (assignInOrder [fun v => bindName X.env z v, fun v => bindName X.env y v, fun v => bindName X.env x v] [u3, u2, u1] >>= fun _ => pure Flow.next) _ _ _
  refine wpAny_bind (assignInOrder_cons (wpAny_bindName (store_ok J3 hN hl (.inl hz) r3 (fun t2 J4 => ?_) (.inr hz))))
  refine assignInOrder_cons (wpAny_bindName (store_ok J4 hN hj (.inl hy) r2 (fun t3 J5 => ?_) (.inr hy)))
  refine assignInOrder_cons (wpAny_bindName (store_ok J5 hN hi (.inl hx) r1 (fun t4 J6 => assignInOrder_nil (wpAny_pure ?_)) (.inr hx)))
  rw [List.set_comm _ _ (Ne.symm hij), List.set_comm _ _ (Ne.symm hil), List.set_comm _ _ (Ne.symm hjl)] at J6
  exact ⟨_, G1, by first | exact J6 | (rw [List.set_comm _ _ hij]; exact J6), q1⟩
end L2
set_option Elab.async false
set_option linter.all false
set_option maxRecDepth 100000
set_option maxHeartbeats 4000000




namespace Prf
open PySem L2
def top (i : Nat) : Stmt := PySem.Challenge.pw_fewnotes_k10_sixty_rows_by_itself.main.body.getD i (.Pass ⟨0, 0, 0, 0⟩)
abbrev s_cell_of : Stmt := top 8
abbrev s_is_whole : Stmt := top 10
abbrev s_is_below : Stmt := top 11
abbrev s_Hand_init : Stmt := inClass (top 15) 0
abbrev s_Hand_lead_on : Stmt := inClass (top 15) 3
abbrev s_Hand_do : Stmt := inClass (top 15) 4
abbrev s_Hand_holds : Stmt := inClass (top 15) 5
abbrev s_Hand_take : Stmt := inClass (top 15) 6
abbrev s_Hand_value_of : Stmt := inClass (top 15) 7
abbrev s_Works_init : Stmt := inClass (top 16) 0
abbrev s_Works_turn : Stmt := inClass (top 16) 1
abbrev s_Works_touch_by : Stmt := inClass (top 16) 2
abbrev s_Works_boxes : Stmt := inClass (top 16) 4
abbrev s_Works_said : Stmt := inClass (top 16) 5
abbrev s_Works_how : Stmt := inClass (top 16) 6
abbrev s_Works_hand_of : Stmt := inClass (top 16) 9
abbrev s_check_numbers : Stmt := top 17
abbrev s_Lreel : Stmt := top 19
abbrev s_Ldraw : Stmt := top 20
abbrev s_Lalike : Stmt := top 21
abbrev s_Lpart : Stmt := top 22
abbrev s_Lrows : Stmt := top 23
abbrev s_Lled : Stmt := top 24
abbrev s_Ltold : Stmt := top 25
abbrev s_Lover : Stmt := top 26
abbrev s_law : Stmt := top 27
structure Blt (mg : Str → Option Value) : Prop where
  b_all : mg "all" = none
  b_bool : mg "bool" = none
  b_int : mg "int" = none
  b_isinstance : mg "isinstance" = none
  b_len : mg "len" = none
  b_list : mg "list" = none
  b_max : mg "max" = none
  b_min : mg "min" = none
  b_range : mg "range" = none
  b_str : mg "str" = none
  b_sum : mg "sum" = none
  b_tuple : mg "tuple" = none
  b_zip : mg "zip" = none
theorem sc_cell_of : FnScope ["row"] ["row"] (defScope s_cell_of) := ⟨rfl, rfl, rfl, by decide +kernel, rfl, by decide +kernel, by decide +kernel⟩
theorem sc_is_whole : FnScope ["value"] ["value"] (defScope s_is_whole) := ⟨rfl, rfl, rfl, by decide +kernel, rfl, by decide +kernel, by decide +kernel⟩
theorem sc_is_below : FnScope ["value", "count"] ["value", "count"] (defScope s_is_below) := ⟨rfl, rfl, rfl, by decide +kernel, rfl, by decide +kernel, by decide +kernel⟩
theorem sc_Hand_init : FnScope ["self", "rows"] ["self", "rows"] (defScope s_Hand_init) := ⟨rfl, rfl, rfl, by decide +kernel, rfl, by decide +kernel, by decide +kernel⟩
theorem sc_Hand_lead_on : FnScope ["self", "done"] ["self"] (defScope s_Hand_lead_on) := ⟨rfl, rfl, rfl, by decide +kernel, rfl, by decide +kernel, by decide +kernel⟩
theorem sc_Hand_do : FnScope ["self", "row"] ["self", "row"] (defScope s_Hand_do) := ⟨rfl, rfl, rfl, by decide +kernel, rfl, by decide +kernel, by decide +kernel⟩
theorem sc_Hand_holds : FnScope ["self", "row", "left", "right"] ["self", "row"] (defScope s_Hand_holds) := ⟨rfl, rfl, rfl, by decide +kernel, rfl, by decide +kernel, by decide +kernel⟩
theorem sc_Hand_take : FnScope ["self", "box", "number"] ["self", "box", "number"] (defScope s_Hand_take) := ⟨rfl, rfl, rfl, by decide +kernel, rfl, by decide +kernel, by decide +kernel⟩
theorem sc_Hand_value_of : FnScope ["self", "part", "left", "right"] ["self", "part"] (defScope s_Hand_value_of) := ⟨rfl, rfl, rfl, by decide +kernel, rfl, by decide +kernel, by decide +kernel⟩
theorem sc_Works_init : FnScope ["self", "program", "cells", "one"] ["self", "program", "cells"] (defScope s_Works_init) := ⟨rfl, rfl, rfl, by decide +kernel, rfl, by decide +kernel, by decide +kernel⟩
theorem sc_Works_turn : FnScope ["self", "hand", "one", "touch"] ["self", "hand"] (defScope s_Works_turn) := ⟨rfl, rfl, rfl, by decide +kernel, rfl, by decide +kernel, by decide +kernel⟩
theorem sc_Works_touch_by : FnScope ["self", "one", "row", "cell", "read", "written"] ["self", "one"] (defScope s_Works_touch_by) := ⟨rfl, rfl, rfl, by decide +kernel, rfl, by decide +kernel, by decide +kernel⟩
theorem sc_Works_boxes : FnScope ["self", "hand"] ["self", "hand"] (defScope s_Works_boxes) := ⟨rfl, rfl, rfl, by decide +kernel, rfl, by decide +kernel, by decide +kernel⟩
theorem sc_Works_said : FnScope ["self", "hand"] ["self", "hand"] (defScope s_Works_said) := ⟨rfl, rfl, rfl, by decide +kernel, rfl, by decide +kernel, by decide +kernel⟩
theorem sc_Works_how : FnScope ["self", "hand"] ["self", "hand"] (defScope s_Works_how) := ⟨rfl, rfl, rfl, by decide +kernel, rfl, by decide +kernel, by decide +kernel⟩
theorem sc_Works_hand_of : FnScope ["self", "hand"] ["self", "hand"] (defScope s_Works_hand_of) := ⟨rfl, rfl, rfl, by decide +kernel, rfl, by decide +kernel, by decide +kernel⟩
theorem sc_check_numbers : FnScope ["cells", "count"] ["cells", "count"] (defScope s_check_numbers) := ⟨rfl, rfl, rfl, by decide +kernel, rfl, by decide +kernel, by decide +kernel⟩
theorem sc_Lreel : FnScope ["script", "stir", "cell", "great"] ["script"] (defScope s_Lreel) := ⟨rfl, rfl, rfl, by decide +kernel, rfl, by decide +kernel, by decide +kernel⟩
theorem sc_Ldraw : FnScope ["reel", "many", "rest", "told", "stir"] ["reel", "many"] (defScope s_Ldraw) := ⟨rfl, rfl, rfl, by decide +kernel, rfl, by decide +kernel, by decide +kernel⟩
theorem sc_Lalike : FnScope ["found", "due"] ["found", "due"] (defScope s_Lalike) := ⟨rfl, rfl, rfl, by decide +kernel, rfl, by decide +kernel, by decide +kernel⟩
theorem sc_Lpart : FnScope ["reel", "near", "ahead", "behind"] ["reel"] (defScope s_Lpart) := ⟨rfl, rfl, rfl, by decide +kernel, rfl, by decide +kernel, by decide +kernel⟩
theorem sc_Lrows : FnScope ["parts", "last", "rows", "ahead", "times", "behind", "back"] ["parts", "last"] (defScope s_Lrows) := ⟨rfl, rfl, rfl, by decide +kernel, rfl, by decide +kernel, by decide +kernel⟩
theorem sc_Lled : FnScope ["hand", "parts", "last", "at", "ahead", "times", "behind", "gone"] ["hand"] (defScope s_Lled) := ⟨rfl, rfl, rfl, by decide +kernel, rfl, by decide +kernel, by decide +kernel⟩
theorem sc_Ltold : FnScope ["one", "hands", "k"] ["one", "hands"] (defScope s_Ltold) := ⟨rfl, rfl, rfl, by decide +kernel, rfl, by decide +kernel, by decide +kernel⟩
theorem sc_Lover : FnScope ["one", "k", "caught", "e"] ["one", "k"] (defScope s_Lover) := ⟨rfl, rfl, rfl, by decide +kernel, rfl, by decide +kernel, by decide +kernel⟩
theorem sc_law : FnScope ["script", "reel", "hands", "k", "last", "one", "hand", "turn"] ["script"] (defScope s_law) := ⟨rfl, rfl, rfl, by decide +kernel, rfl, by decide +kernel, by decide +kernel⟩
structure Cl_Hand (K : PySem.W.Frag) (C : Addr) : Prop where
  cls : Cls K C
  n_rows : NoAttr K C "rows"
  n_at : NoAttr K C "at"
  n_in_boxes : NoAttr K C "in_boxes"
  n_sayings : NoAttr K C "sayings"
  n_state : NoAttr K C "state"
structure Cl_Works (K : PySem.W.Frag) (C : Addr) : Prop where
  cls : Cls K C
  n_program : NoAttr K C "program"
  n_numbers : NoAttr K C "numbers"
  n_hands : NoAttr K C "hands"
  n_turns : NoAttr K C "turns"
section
variable {P : Program} {w : World} {K : PySem.W.Frag} {mg : Str → Option Value} {base : Heap}
theorem fm_filt {α β : Type} (p : α → Bool) (g : α → β) : ∀ l : List α, (List.range l.length).filterMap (fun i => (l[i]?).bind fun x => if p x then some (g x) else none) = (l.filter p).map g
  | [] => rfl
  | x :: l => by
    have ih := fm_filt p g l
    rw [List.length_cons, List.range_succ_eq_map, List.filterMap_cons, List.filterMap_map, List.filter_cons]
    cases q : p x
    · simp [q]; exact ih
    · simp [q]; exact ih
theorem eqv_int (x y : Int) : PyData.eqv (.int x) (.int y) = decide (x = y) := by
  simp only [PyData.eqv]
  rw [Bool.eq_iff_iff]
  simp
theorem dat_ints {H : Hp} {a : Addr} {ns : List Int} (h : H a = some (.lst (ns.map V.int))) : Dat H (.ref a) (.list (ns.map PyData.int)) := dat_list h (Dats.ints ns)
theorem shaped_ints (ns : List Int) : SeqAt.shaped (.list (ns.map PyData.int)) = true := shaped_list PyData.int 0 (by decide) (fun _ _ => rfl) (fun _ _ => by show 0 ≤ 0; decide)

def gI (cs : List Int) (h : Int) : Int := (cs[h.toNat]?).getD 0
theorem atI_gI {cs : List Int} {h : Int} (h0 : 0 ≤ h) (h1 : h < cs.length) : atI (cs.map V.int) h = some (.int (gI cs h)) := by
  obtain ⟨m, rfl⟩ := Int.eq_ofNat_of_zero_le h0
  have : m < cs.length := by omega
  refine atI_nat ?_
  simp [gI, this]
/-! ### the reel of programs -/
def M127 : Int := 170141183460469231731687303715884105727
theorem bits127 : Builtin.Int.intBits M127 ≤ 127 := PySem.intBits_le_iff.mpr (by decide)
theorem bits_lt {t : Int} (h0 : 0 ≤ t) (h1 : t < M127) : Builtin.Int.intBits t ≤ 127 := PySem.intBits_le_of_natAbs (y := M127) (by unfold M127 at h1 ⊢; omega) bits127
theorem mul_ok {t : Int} (h0 : 0 ≤ t) (h1 : t < M127) : IntMulOk t t := IntMulOk.of_le (bits_lt h0 h1) (bits_lt h0 h1) (by omega)
def ReelP (H : Hp) (r : Addr) : Prop := ∃ (g c : Addr) (gs cs : List Int) (p t : Int), H r = some (.lst [.ref g, .ref c, .int p, .int t]) ∧ H g = some (.lst (gs.map V.int)) ∧ H c = some (.lst (cs.map V.int)) ∧ 0 < cs.length ∧ cs.length ≤ 100 ∧ gs.length ≤ 100 ∧ (∀ x ∈ gs, 0 ≤ x) ∧ 0 ≤ p ∧ 0 ≤ t ∧ t < M127 ∧ g ≠ r ∧ c ≠ r
theorem ReelP.keep {H H' : Hp} {r : Addr} (h : ReelP H r) (k : Same H H') : ReelP H' r := by
  obtain ⟨g, c, gs, cs, p, t, e1, e2, e3, q⟩ := h
  exact ⟨g, c, gs, cs, p, t, k _ _ e1, k _ _ e2, k _ _ e3, q⟩
theorem ReelP.ne {H : Hp} {r p : Addr} (h : ReelP H r) (hp : H p = none) : p ≠ r := by
  obtain ⟨g, c, gs, cs, _, t, e1, _⟩ := h
  exact (ne_of_none e1 hp).symm
theorem ReelP.at {H : Hp} {r : Addr} (h : ReelP H r) : ∃ o, H r = some o := by
  obtain ⟨g, c, gs, cs, p, t, e1, _⟩ := h
  exact ⟨_, e1⟩
theorem ReelP.tups {H H' : Hp} {r : Addr} (h : ReelP H r) (k : Kp r H H') : ∀ a xs, H a = some (HO.tup xs) → H' a = some (HO.tup xs) := by
  obtain ⟨g, c, gs, cs, p, t, e1, _⟩ := h
  exact k.tups e1
/-- not a list of the reel's own -/
def Off (H : Hp) (r x : Addr) : Prop := ∀ (g c : Addr) (u v : V), H r = some (.lst [.ref g, .ref c, u, v]) → x ≠ g ∧ x ≠ c
/-- the reel alone is changed, and what is not its own stays so -/
def KR (r : Addr) (H H' : Hp) : Prop := Kp r H H' ∧ ∀ x o, H x = some o → x ≠ r → Off H r x → Off H' r x
theorem KR.trans {r : Addr} {H H1 H2 : Hp} (a : KR r H H1) (b : KR r H1 H2) : KR r H H2 := ⟨a.1.trans b.1, fun x o e n f => b.2 x o (a.1 _ _ e n) n (a.2 x o e n f)⟩
theorem KR.tups {r : Addr} {H H' : Hp} (k : KR r H H') (R : ReelP H r) : ∀ a xs, H a = some (HO.tup xs) → H' a = some (HO.tup xs) := R.tups k.1
theorem KR.same {r : Addr} {H H' : Hp} (R : ReelP H r) (k : Same H H') : KR r H H' := ⟨.of_same k, fun x o e n f g c u v e2 => by
  obtain ⟨g', c', gs, cs, p, t, e1, _⟩ := R
  rw [k _ _ e1] at e2
  cases e2
  exact f _ _ _ _ e1⟩
theorem ReelP.off {H : Hp} {r x : Addr} (R : ReelP H r) (hx : H x = none) : Off H r x := fun g c u v e => by
  obtain ⟨g', c', gs, cs, p, t, e1, e2, e3, _⟩ := R
  rw [e1] at e
  cases e
  exact ⟨fun z => (by rw [z, e2] at hx; cases hx), fun z => (by rw [z, e3] at hx; cases hx)⟩
theorem Off.same {H H' : Hp} {r x : Addr} (R : ReelP H r) (k : Same H H') (f : Off H r x) : Off H' r x := fun g c u v e2 => by
  obtain ⟨g', c', gs, cs, p, t, e1, _⟩ := R
  rw [k _ _ e1] at e2
  cases e2
  exact f _ _ _ _ e1
theorem ReelP.set {H : Hp} {r x : Addr} {o : HO} (R : ReelP H r) (n : x ≠ r) (f : Off H r x) : ReelP (upd H x o) r := by
  obtain ⟨g, c, gs, cs, p, t, e1, e2, e3, q⟩ := R
  obtain ⟨n1, n2⟩ := f _ _ _ _ e1
  exact ⟨g, c, gs, cs, p, t, by rw [upd_ne n.symm]; exact e1, by rw [upd_ne n1.symm]; exact e2, by rw [upd_ne n2.symm]; exact e3, q⟩
theorem Off.set {H : Hp} {r x y : Addr} {o : HO} (n : x ≠ r) (f : Off H r y) : Off (upd H x o) r y := fun g c u v e => f g c u v (by rw [upd_ne n.symm] at e; exact e)
theorem Kp.new {H H' : Hp} {r p : Addr} (k : Kp r H H') (hp : H' p = none) (hr : ∃ o, H' r = some o) : H p = none := by
  cases e : H p with
  | none => rfl
  | some o =>
    by_cases n : p = r
    · subst n
      obtain ⟨o', ho⟩ := hr
      rw [hp] at ho
      cases ho
    · rw [k _ _ e n] at hp
      cases hp
theorem cut_all {ns : List Int} (h : ns.length ≤ 63) : cutV (ns.map V.int) none (some 63) = ns.map V.int := by
  unfold cutV
  rw [HT.sIx_none, show (some (63 : Int)) = some ((63 : Nat) : Int) from rfl, HT.sIx_nat, List.length_map, List.drop_zero, Nat.min_eq_right h, Nat.sub_zero, List.take_of_length_le (by simp)]
def spReelP (K : PySem.W.Frag) : Sp := fun vs H Q _ => ∃ (a : Addr) (ns : List Int), vs = [.ref a] ∧ SqL K H a (ns.map V.int) ∧ ns.length ≤ 63 ∧ ∀ (r : Addr) (H' : Hp), H r = none → ReelP H' r → Same H H' → Q (.ref r) H'
theorem ok_reelP {f : Addr} {fd : FuncData} (F : Fun K "_law_reel" "_law_reel" s_Lreel f fd) (Bt : Blt mg) : FnOk P w K mg base CX0 1 f fd ["script"] (spReelP K) := by
  refine F.ok sc_Lreel (fun vs H Q E h => ?_) (fun cdv A outer s H vs Q E hr h => ?_)
  · obtain ⟨a, ns, rfl, _⟩ := h
    rfl
  · obtain ⟨a, ns, rfl, hs, hlen, k⟩ := h
    refine ⟨_, (pss_cons (ps_set (i := 1) sc_Lreel.nd rfl (Or.inl rfl) (pe_op op_pow pe_int pe_int))
      (pss_cons (ps_for PassesOwn.never rfl (pi_listK (K := K) rfl (pe_slice (sl_listK (K := K) rfl) (pv 0) po_none (po_some pe_int))) (pg_name (i := 2) sc_Lreel.nd rfl (Or.inl rfl))
      (pss_one (ps_set (i := 1) sc_Lreel.nd rfl (Or.inl rfl) (pe_op op_mod (pe_op op_add (pe_op op_add (pe_op op_mulB (pv 1) (pv 1)) (pe_op op_mod (pv 2) pe_int)) pe_int) (pe_op op_sub (pe_op op_mul (pe_op op_pow pe_int pe_int) (pe_op op_pow pe_int pe_int)) pe_int)))))
      (pss_cons (ps_setC (i := 3) rfl sc_Lreel.nd rfl (Or.inl rfl) (N := ["cell"]) (own := ["cell"]) (caps := []) (CompScope.of (by kernel_rfl)) (pi_listK (K := K) rfl (pe_slice (sl_listK (K := K) rfl) (pv 0) po_none (po_some pe_int))) (fun _ _ _ _ => (pg_name (i := 0) (show List.Nodup (["cell"] : List Str) by decide +kernel) rfl (Or.inl rfl))) (fun _ _ _ _ => (pts_one (pt_cmpR op_ge (pv 0) (pe_op op_pow pe_int pe_int) (nomark _)))) (fun _ _ _ _ => (pe_op op_sub (pv 0) (pe_op op_pow pe_int pe_int))))
      (pss_one (ps_ret (pe_lst (pa_cons (pv 3) (pa_cons (pe_op op_cat (pe_comp rfl (N := ["cell"]) (own := ["cell"]) (caps := []) (CompScope.of (by kernel_rfl)) (pi_listK (K := K) rfl (pe_slice (sl_listK (K := K) rfl) (pv 0) po_none (po_some pe_int))) (fun _ _ _ _ => (pg_name (i := 0) (show List.Nodup (["cell"] : List Str) by decide +kernel) rfl (Or.inl rfl))) (fun _ _ _ _ => pts_nil) (fun _ _ _ _ => (pe_op op_mod (pv 0) pe_int))) (pe_lst (pa_cons pe_int pa_nil))) (pa_cons pe_int (pa_cons (pv 1) pa_nil)))))))))), ?_⟩
    refine ⟨_, _, rfl, rfl, (by show CPow 3 60; exact ⟨by decide, by decide, by decide⟩), ?_⟩
    refine ⟨_, rfl, _, rfl, _, _, rfl, hs, fun p hp => ?_⟩
    rw [cut_all hlen]
    have s1 := same_new (o := HO.lst (ns.map V.int)) hp
    have cp1 : CPow 2 64 := ⟨by decide, by decide, by decide⟩
    have cp2 : CPow 2 63 := ⟨by decide, by decide, by decide⟩
    have cp3 : CPow 10 18 := ⟨by decide, by decide, by decide⟩
    refine ⟨p, rfl, ⟨_, SqL.of upd_same⟩, for_list (K := K) (a := p) (xs := ns.map V.int) (fun i σ H2 => ∃ (t : Int) (v : Option V), σ = [some (.ref a), some (.int t), v, none] ∧ H2 = upd H p (.lst (ns.map V.int)) ∧ 0 ≤ t ∧ t < M127)
      ⟨_, none, rfl, rfl, by decide, by decide⟩ (fun i σ H2 _ ⟨_, _, _, e, _⟩ => by rw [e]; exact SqL.of upd_same) ?_ ?_⟩
    · rintro i y σ H2 hi ⟨t, v, rfl, rfl, t0, t1⟩
      obtain ⟨z, rfl⟩ : ∃ z, y = V.int z := by
        rw [List.getElem?_map] at hi
        cases e : ns[i]? with
        | none => rw [e] at hi; cases hi
        | some z => rw [e] at hi; exact ⟨z, (Option.some.inj hi).symm⟩
      refine ⟨_, rfl, _, rfl, _, _, rfl, rfl, mul_ok t0 t1, _, rfl, _, _, rfl, rfl, (by show (0 : Int) < 1000000000000000003; decide), _, _, rfl, rfl, _, _, rfl, rfl, ?_⟩
      refine ⟨_, _, rfl, rfl, cp1, _, _, rfl, rfl, cp2, _, _, rfl, rfl, .inr ⟨by decide, by decide⟩, _, _, rfl, rfl, _, _, rfl, rfl, (by show (0 : Int) < 2 ^ Int.toNat 64 * 2 ^ Int.toNat 63 - 1; decide), ?_⟩
      refine ⟨_, _, rfl, rfl, ?_, ?_⟩
      · exact Int.emod_nonneg _ (by decide)
      · exact Int.emod_lt_of_pos _ (by decide)
    · rintro σ H2 ⟨t, v, rfl, rfl, t0, t1⟩
      have hs1 := s1.seq hs
      refine ⟨_, rfl, _, rfl, _, _, rfl, hs1, fun p2 hp2 => ?_⟩
      rw [cut_all hlen]
      have s2 := same_new (o := HO.lst (ns.map V.int)) hp2
      refine ⟨p2, rfl, ⟨_, SqL.of upd_same⟩, fun D hD => ?_⟩
      refine comp_val (K := K) (fun i => (ns[i]?).bind fun z => if decide (z ≥ 10 ^ (18 : Int).toNat) then some (V.int (z - 10 ^ (18 : Int).toNat)) else none) hD (SqL.of upd_same) (by rw [List.length_map]; omega) (fun i v H3 G F hi s3 kG kF => ?_) (fun H3 s3 e3 => ?_)
      · rw [List.getElem?_map] at hi
        cases e : ns[i]? with
        | none => rw [e] at hi; cases hi
        | some z =>
          rw [e] at hi
          cases hi
          simp only [e, Option.bind_some] at kG kF
          refine ⟨_, rfl, _, _, rfl, rfl, cp3, _, _, rfl, rfl, _, rfl, ?_⟩
          refine ite2 (fun w => ?_) (fun w => ?_)
          · exact ⟨_, rfl, _, _, rfl, rfl, cp3, _, _, rfl, rfl, kF _ H3 (Same.refl _) (by rw [if_pos w])⟩
          · exact kG H3 (Same.refl _) (by rw [if_neg w])
      rw [List.length_map, fm_filt (fun z : Int => decide (z ≥ 10 ^ (18 : Int).toNat)) (fun z => V.int (z - 10 ^ (18 : Int).toNat))] at e3
      have e3' : H3 D = some (.lst (((ns.filter fun z => decide (z ≥ 10 ^ (18 : Int).toNat)).map fun z => z - 10 ^ (18 : Int).toNat).map V.int)) := by rw [e3, List.map_map]; rfl
      have s13 := (s1.trans s2).trans s3
      refine ⟨_, rfl, _, rfl, _, rfl, _, _, rfl, s13.seq hs, fun p3 hp3 => ?_⟩
      rw [cut_all hlen]
      have s4 := same_new (o := HO.lst (ns.map V.int)) hp3
      refine ⟨p3, rfl, ⟨_, SqL.of upd_same⟩, fun D2 hD2 => ?_⟩
      refine comp_val (K := K) (fun i => (ns[i]?).map fun z => V.int (z % 1000003)) hD2 (SqL.of upd_same) (by rw [List.length_map]; omega) (fun i v H5 G F hi s5 kG kF => ?_) (fun H5 s5 e5 => ?_)
      · rw [List.getElem?_map] at hi
        cases e : ns[i]? with
        | none => rw [e] at hi; cases hi
        | some z =>
          rw [e] at hi
          cases hi
          exact ⟨_, rfl, _, _, rfl, rfl, (by show (0 : Int) < 1000003; decide), kF _ H5 (Same.refl _) (by rw [e]; rfl)⟩
      rw [List.length_map, fm_some] at e5
      refine ⟨(by show 1 ≤ sizeLine; decide), fun p4 hp4 => ?_⟩
      have s6 := same_new (o := HO.lst [V.int 41]) hp4
      refine ⟨D2, p4, _, _, rfl, rfl, s6 _ _ e5, upd_same, by rw [sizeLine_eq, List.length_map]; simp only [List.length_singleton]; omega, fun c hc => ?_⟩
      have s7 := same_new (o := HO.lst (ns.map (fun z => V.int (z % 1000003)) ++ [V.int 41])) hc
      have s47 := (s4.trans s5).trans (s6.trans s7)
      refine ⟨_, rfl, (by show 4 ≤ sizeLine; decide), fun r hr' => ?_⟩
      have s8 := same_new (o := HO.lst [V.ref D, V.ref c, V.int 0, V.int t]) hr'
      have eD := s47 _ _ e3'
      have nDr : D ≠ r := ne_of_none eD hr'
      have ncr : c ≠ r := ne_of_none upd_same hr'
      have fl : (ns.filter fun z => decide (z ≥ 10 ^ (18 : Int).toNat)).length ≤ ns.length := List.length_filter_le _ _
      refine k r _ ((s13.trans s47).free hr') ⟨D, c, _, ns.map (· % 1000003) ++ [41], 0, t, upd_same, s8 _ _ eD, ?_, by simp, by simp; omega, by rw [List.length_map]; omega, fun x hx => ?_, by decide, t0, t1, nDr, ncr⟩ ((s13.trans s47).trans s8)
      · refine s8 _ _ ?_
        rw [upd_same, List.map_append, List.map_map]; rfl
      · obtain ⟨z, hz, rfl⟩ := List.mem_map.mp hx
        have := of_decide_eq_true (List.mem_filter.mp hz).2
        omega
def spDrawP (K : PySem.W.Frag) : Sp := fun vs H Q _ => ∃ (r : Addr) (m : Int), vs = [.ref r, .int m] ∧ ReelP H r ∧ 0 < m ∧ m < 1329227995784915872903807060280344576 ∧ ∀ (z : Int) (H' : Hp), 0 ≤ z → z < m → ReelP H' r → KR r H H' → Q (.int z) H'
theorem ok_drawP {f : Addr} {fd : FuncData} (F : Fun K "_law_draw" "_law_draw" s_Ldraw f fd) (Bt : Blt mg) : FnOk P w K mg base CX0 1 f fd ["reel", "many"] (spDrawP K) := by
  refine F.ok sc_Ldraw (fun vs H Q E h => ?_) (fun cdv A outer s H vs Q E hr h => ?_)
  · obtain ⟨r, m, rfl, _⟩ := h
    rfl
  · obtain ⟨r, m, rfl, ⟨g, c, gs, cs, p, t, hR, hG, hC, c0, c1, g1, gpos, p0, t0, t1, ngr, ncr⟩, m0, m1, k⟩ := h
    have hu64 := hr.units
    refine ⟨_, (pss_cons (ps_if (pt_cmpR (op_neDK (K := K) rfl hu64) (pe_ix (ix_listK (K := K) rfl) (pv 0) pe_int (fun _ _ => rfl)) (pe_lst pa_nil) (nomark _)) (pss_cons (ps_set (i := 2) sc_Ldraw.nd rfl (Or.inl rfl) (pe_ix (ix_listK (K := K) rfl) (pe_ix (ix_listK (K := K) rfl) (pv 0) pe_int (fun _ _ => rfl)) pe_int (fun _ _ => rfl)))
      (pss_cons (ps_asg (pe_op op_cat (pe_op op_rep (pe_lst (pa_cons (pe_op op_fdivB (pv 2) (pv 1)) pa_nil)) (pe_callTy call_int1 (by rfl) Bt.b_int bt_int (pa_cons (pe_cmpR op_ge (pv 2) (pv 1) (nomark _)) pa_nil))) (pe_slice (sl_listK (K := K) rfl) (pe_ix (ix_listK (K := K) rfl) (pv 0) pe_int (fun _ _ => rfl)) (po_some pe_int) po_none)) (pg_sub (pv 0) pe_int set_list))
      (pss_one (ps_ret (pe_op op_mod (pv 2) (pv 1)))))) pss_nil)
      (pss_cons (ps_asg (pe_op op_add (pe_ix (ix_listK (K := K) rfl) (pv 0) pe_int (fun _ _ => rfl)) pe_int) (pg_sub (pv 0) pe_int set_list))
      (pss_cons (ps_set (i := 3) sc_Ldraw.nd rfl (Or.inl rfl) (pe_ix (ix_listK (K := K) rfl) (pe_ix (ix_listK (K := K) rfl) (pv 0) pe_int (fun _ _ => rfl)) (pe_op op_mod (pe_ix (ix_listK (K := K) rfl) (pv 0) pe_int (fun _ _ => rfl)) (pe_callB (call_len_seqK (K := K) rfl) (by rfl) Bt.b_len bt_len (pa_cons (pe_ix (ix_listK (K := K) rfl) (pv 0) pe_int (fun _ _ => rfl)) pa_nil))) (fun _ _ => rfl)))
      (pss_cons (ps_set (i := 4) sc_Ldraw.nd rfl (Or.inl rfl) (pe_op op_add (pe_op op_add (pe_op op_mulB (pe_ix (ix_listK (K := K) rfl) (pv 0) pe_int (fun _ _ => rfl)) (pe_ix (ix_listK (K := K) rfl) (pv 0) pe_int (fun _ _ => rfl))) (pe_op op_mul (pe_op op_add (pv 3) pe_int) pe_int)) (pe_op op_mul (pe_ix (ix_listK (K := K) rfl) (pv 0) pe_int (fun _ _ => rfl)) pe_int)))
      (pss_cons (ps_asg (pe_op op_mod (pv 4) (pe_op op_sub (pe_op op_mul (pe_op op_pow pe_int pe_int) (pe_op op_pow pe_int pe_int)) pe_int)) (pg_sub (pv 0) pe_int set_list))
      (pss_one (ps_ret (pe_op op_mod (pe_op op_fdivB (pe_ix (ix_listK (K := K) rfl) (pv 0) pe_int (fun _ _ => rfl)) (pe_op op_pow pe_int pe_int)) (pv 1))))))))), ?_⟩
    refine ⟨_, rfl, _, _, _, _, rfl, rfl, SqL.of hR, rfl, (by show 0 ≤ sizeLine; decide), fun q hq => ?_⟩
    have s1 := same_new (o := HO.lst []) hq
    have hR1 := s1 _ _ hR
    have hG1 := s1 _ _ hG
    have hC1 := s1 _ _ hC
    refine ⟨_, _, dat_ints hG1, dat_ints (ns := []) upd_same, shaped_ints _, shaped_ints _, _, rfl, ?_⟩
    rw [if_pos rfl, eqv_list PyData.int eqv_int]
    refine ite2 (fun w => ?_) (fun _ => ?_)
    · have w : gs ≠ [] := by simpa using w
      obtain ⟨x, xs, rfl⟩ : ∃ x xs, gs = x :: xs := by
        cases gs with
        | nil => exact absurd rfl w
        | cons x xs => exact ⟨x, xs, rfl⟩
      have x0 := gpos x (by simp)
      refine ⟨_, rfl, _, _, _, _, rfl, rfl, SqL.of hR1, rfl, _, _, _, _, rfl, rfl, SqL.of hG1, (by show atI (V.int x :: xs.map V.int) 0 = some (V.int x); simp [atI, ixN]), ?_⟩
      refine ⟨_, rfl, _, rfl, _, _, rfl, rfl, ⟨m0, m1⟩, (by show 1 ≤ sizeLine; decide), fun q2 hq2 => ?_⟩
      have s2 := same_new (o := HO.lst [V.int (x / m)]) hq2
      refine ⟨_, rfl, _, rfl, _, _, rfl, rfl, Or.inr ⟨_, rfl, q2, _, _, rfl, rfl, upd_same, ?_, ?_, ?_, fun q3 hq3 => ?_⟩⟩
      · split <;> decide
      · split <;> decide
      · rw [sizeLine_eq]; split <;> simp
      have s3 := same_new (o := HO.lst (List.replicate (if decide (x ≥ m) = true then (1 : Int) else 0).toNat [V.int (x / m)]).flatten) hq3
      have s23 := s2.trans s3
      refine ⟨_, rfl, _, _, _, _, rfl, rfl, SqL.of (s23 _ _ hR1), rfl, _, rfl, g, _, rfl, SqL.of (s23 _ _ hG1), fun q4 hq4 => ?_⟩
      rw [show cutV ((x :: xs).map V.int) (some 1) none = xs.map V.int from cut_drop _ 1]
      have s4 := same_new (o := HO.lst (xs.map V.int)) hq4
      have fl : (List.replicate (if decide (x ≥ m) = true then (1 : Int) else 0).toNat [V.int (x / m)]).flatten.length ≤ 1 := by split <;> simp
      have xl : xs.length ≤ 100 := by have : (x :: xs).length ≤ 100 := g1; simp at this; omega
      refine ⟨q3, q4, _, _, rfl, rfl, s4 _ _ upd_same, upd_same, by rw [sizeLine_eq, List.length_map]; exact Nat.le_trans (Nat.add_le_add fl xl) (by decide), fun q5 hq5 => ?_⟩
      have s5 := same_new (o := HO.lst ((List.replicate (if decide (x ≥ m) = true then (1 : Int) else 0).toNat [V.int (x / m)]).flatten ++ xs.map V.int)) hq5
      have s25 := (s23.trans s4).trans s5
      have hR5 := s25 _ _ hR1
      refine ⟨_, rfl, _, _, _, _, rfl, rfl, hR5, rfl, ?_⟩
      have kr : Kp r (upd (upd (upd (upd (upd H q (HO.lst [])) q2 (HO.lst [V.int (x / m)])) q3 (HO.lst (List.replicate (if decide (x ≥ m) = true then (1 : Int) else 0).toNat [V.int (x / m)]).flatten)) q4 (HO.lst (xs.map V.int))) q5 (HO.lst ((List.replicate (if decide (x ≥ m) = true then (1 : Int) else 0).toNat [V.int (x / m)]).flatten ++ xs.map V.int))) _ := Kp.set (o := .lst [.ref q5, .ref c, .int p, .int t])
      have nq5 : q5 ≠ r := (ne_of_none ((s23.trans s4) _ _ hR1) hq5).symm
      have eq5 : (List.replicate (if decide (x ≥ m) = true then (1 : Int) else 0).toNat [V.int (x / m)]).flatten ++ xs.map V.int = ((if decide (x ≥ m) = true then [x / m] else []) ++ xs).map V.int := by
        split <;> simp
      refine ⟨_, rfl, _, rfl, _, _, rfl, rfl, m0, ?_⟩
      refine k _ _ (Int.emod_nonneg _ (by omega)) (Int.emod_lt_of_pos _ m0) ⟨q5, c, (if decide (x ≥ m) = true then [x / m] else []) ++ xs, cs, p, t, upd_same, ?_, kr _ _ (s25 _ _ hC1) ncr, c0, c1, ?_, fun y hy => ?_, p0, t0, t1, nq5, ncr⟩ ⟨(Kp.of_same (s1.trans s25)).trans kr, fun y o ey ny f g' c' u v e => by
        rw [upd_same] at e
        cases e
        exact ⟨ne_of_none ((s1.trans (s23.trans s4)) _ _ ey) hq5, (f _ _ _ _ hR).2⟩⟩
      · refine kr _ _ ?_ nq5
        rw [upd_same, eq5]
      · rw [List.length_append]
        have : (if decide (x ≥ m) = true then [x / m] else []).length ≤ 1 := by split <;> simp
        have : (x :: xs).length ≤ 100 := g1
        simp only [List.length_cons] at this
        omega
      · rcases List.mem_append.mp hy with hy | hy
        · split at hy
          · have : y = x / m := by simpa using hy
            rw [this]
            exact Int.ediv_nonneg x0 (by omega)
          · cases hy
        · exact gpos y (by simp [hy])
    · have cp1 : CPow 2 64 := ⟨by decide, by decide, by decide⟩
      have cp2 : CPow 2 63 := ⟨by decide, by decide, by decide⟩
      have cp4 : CPow 2 40 := ⟨by decide, by decide, by decide⟩
      refine ⟨_, rfl, _, _, _, _, rfl, rfl, SqL.of hR1, rfl, _, _, rfl, rfl, _, rfl, _, _, _, _, rfl, rfl, hR1, rfl, ?_⟩
      have kr : Kp r (upd H q (HO.lst [])) (upd (upd H q (HO.lst [])) r (.lst [.ref g, .ref c, .int (p + 1), .int t])) := Kp.set
      have hR2 : (upd (upd H q (HO.lst [])) r (.lst [.ref g, .ref c, .int (p + 1), .int t])) r = some (.lst [.ref g, .ref c, .int (p + 1), .int t]) := upd_same
      have hC2 := kr _ _ hC1 ncr
      have i0 : 0 ≤ (p + 1) % (cs.length : Int) := Int.emod_nonneg _ (by omega)
      have i1 : (p + 1) % (cs.length : Int) < cs.length := Int.emod_lt_of_pos _ (by omega)
      refine ⟨_, rfl, _, _, _, _, rfl, rfl, SqL.of hR2, rfl, _, rfl, _, _, _, _, rfl, rfl, SqL.of hR2, rfl, _, rfl, _, _, _, _, rfl, rfl, SqL.of hR2, rfl, c, _, rfl, .inl (SqL.of hC2), _, _, rfl, rfl, by rw [List.length_map]; omega, _, _, _, _, rfl, rfl, SqL.of hC2, by rw [List.length_map]; exact atI_gI i0 i1, ?_⟩
      generalize gI cs ((p + 1) % (cs.length : Int)) = told
      refine ⟨_, rfl, _, _, _, _, rfl, rfl, SqL.of hR2, rfl, _, rfl, _, _, _, _, rfl, rfl, SqL.of hR2, rfl, _, _, rfl, rfl, mul_ok t0 t1, _, rfl, _, _, rfl, rfl, _, _, rfl, rfl, .inr ⟨by decide, by decide⟩, _, _, rfl, rfl, _, rfl, _, _, _, _, rfl, rfl, SqL.of hR2, rfl, _, _, rfl, rfl, .inr ⟨by decide, by decide⟩, _, _, rfl, rfl, ?_⟩
      refine ⟨_, rfl, _, _, rfl, rfl, cp1, _, _, rfl, rfl, cp2, _, _, rfl, rfl, .inr ⟨by decide, by decide⟩, _, _, rfl, rfl, _, _, rfl, rfl, (by show (0 : Int) < 2 ^ Int.toNat 64 * 2 ^ Int.toNat 63 - 1; decide), _, rfl, _, _, _, _, rfl, rfl, hR2, rfl, ?_⟩
      refine ⟨_, rfl, _, _, _, _, rfl, rfl, SqL.of upd_same, rfl, _, _, rfl, rfl, cp4, _, _, rfl, rfl, ⟨by decide, by decide⟩, _, rfl, _, _, rfl, rfl, m0, ?_⟩
      refine k _ _ (Int.emod_nonneg _ (by omega)) (Int.emod_lt_of_pos _ m0) ⟨g, c, gs, cs, p + 1, _, upd_same, ?_, ?_, c0, c1, g1, gpos, by omega, Int.emod_nonneg _ (by decide), Int.emod_lt_of_pos _ (by decide), ngr, ncr⟩ ⟨((Kp.of_same s1).trans kr).trans Kp.set, fun y o ey ny f g' c' u v e => by
        rw [upd_same] at e
        cases e
        exact f _ _ _ _ hR⟩
      · rw [upd_ne ngr]; exact kr _ _ hG1 ngr
      · rw [upd_ne ncr]; exact hC2

/-! ### whole numbers -/
def inP (i : Int) (n : Nat) : Prop := 0 ≤ i ∧ i < (n : Int)
instance (i : Int) (n : Nat) : Decidable (inP i n) := inferInstanceAs (Decidable (_ ∧ _))
def spWh (K : PySem.W.Frag) : Sp := fun vs H Q _ => ∃ i : Int, vs = [.int i] ∧ Q (.bl true) H
theorem ok_is_whole {f : Addr} {fd : FuncData} (F : Fun K "is_whole" "is_whole" s_is_whole f fd) (Bt : Blt mg) : FnOk P w K mg base CX0 1 f fd ["value"] (spWh K) := by
  refine F.ok sc_is_whole (fun vs H Q E h => ?_) (fun cdv A outer s H vs Q E hr h => ?_)
  · obtain ⟨i, rfl, _⟩ := h
    rfl
  · obtain ⟨i, rfl, k⟩ := h
    refine ⟨_, (pss_one (ps_ret (pe_and (pe_callB (call_isiK (K := K) (cv := .ty "int") (c := .type "int") rfl rfl) (by rfl) Bt.b_isinstance bt_isinstance (pa_cons (pv 0) (pa_cons (pe_bltn (v := .ty "int") (by rfl) Bt.b_int bt_int rfl) pa_nil))) (pe_one (pe_not (pe_callB (call_isiK (K := K) (cv := .ty "bool") (c := .type "bool") rfl rfl) (by rfl) Bt.b_isinstance bt_isinstance (pa_cons (pv 0) (pa_cons (pe_bltn (v := .ty "bool") (by rfl) Bt.b_bool bt_bool rfl) pa_nil)))))))), ?_⟩
    refine ⟨_, rfl, _, _, true, rfl, .int i, isi_int_int K, true, rfl, ?_⟩
    refine iteT ?_
    exact ⟨_, rfl, _, _, false, rfl, .int i, isi_int_bool K, false, rfl, k⟩
def spBelow (K : PySem.W.Frag) : Sp := fun vs H Q _ => ∃ (i : Int) (n : Nat), vs = [.int i, .int n] ∧ Q (.bl (decide (inP i n))) H
theorem ok_is_below {f : Addr} {fd : FuncData} (F : Fun K "is_below" "is_below" s_is_below f fd) (F_is_whole : FnAt P w K mg base 1 "is_whole" ["value"] (spWh K)) : FnOk P w K mg base CX0 2 f fd ["value", "count"] (spBelow K) := by
  refine F.ok sc_is_below (fun vs H Q E h => ?_) (fun cdv A outer s H vs Q E hr h => ?_)
  · obtain ⟨i, n, rfl, _⟩ := h
    rfl
  · obtain ⟨i, n, rfl, k⟩ := h
    refine ⟨_, (pss_one (ps_ret (pe_and (pe_fn F_is_whole (hr.mono (by decide)) (by rfl) (pa_cons (pv 0) pa_nil)) (pe_one (pe_chain op_le op_lt pe_int (pv 0) (pv 1)))))), ?_⟩
    refine ⟨_, rfl, i, rfl, true, rfl, ?_⟩
    refine iteT ?_
    refine ⟨_, rfl, _, _, rfl, rfl, _, rfl, ?_⟩
    refine ite2 (fun h0 => ?_) (fun h0 => ?_)
    · refine ⟨_, rfl, _, _, rfl, rfl, ?_⟩
      have e : decide (inP i n) = decide (i < (n : Int)) := by
        have h0 := of_decide_eq_true h0
        rw [Bool.eq_iff_iff, decide_eq_true_iff, decide_eq_true_iff]
        exact ⟨fun z => z.2, fun z => ⟨h0, z⟩⟩
      show Q (.bl (decide (i < (n : Int)))) H
      rw [← e]
      exact k
    · have e : decide (inP i n) = false := decide_eq_false fun z => h0 (decide_eq_true z.1)
      rw [← e]
      exact k

/-! ### a hand, in general -/
def hF (r : Addr) (n : Int) (b sy : Addr) (st : Str) : List (Str × V) := [("rows", .ref r), ("at", .int n), ("in_boxes", .ref b), ("sayings", .ref sy), ("state", .str st)]
structure HAd where
  (h hx r b sy : Addr)
structure HdC (CH : Addr) (H : Hp) (A : HAd) (s : HandS) : Prop where
  h : H A.h = some (.ins CH A.hx (hF A.r s.pos A.b A.sy s.st))
  b : H A.b = some (.lst (s.bs.map V.int))
  y : H A.sy = some (.lst (s.sy.map V.int))
  nby : A.b ≠ A.sy
  bl : s.bs.length = 8
/-- the hand alone is changed -/
def KH (A : HAd) (H H' : Hp) : Prop := ∀ x o, H x = some o → x ≠ A.h → x ≠ A.b → x ≠ A.sy → H' x = some o
theorem KH.of_same {A : HAd} {H H' : Hp} (k : Same H H') : KH A H H' := fun x o e _ _ _ => k _ _ e
theorem KH.trans {A : HAd} {H H1 H2 : Hp} (a : KH A H H1) (b : KH A H1 H2) : KH A H H2 := fun x o e n1 n2 n3 => b x o (a x o e n1 n2 n3) n1 n2 n3
theorem KH.seth {A : HAd} {H : Hp} {o : HO} : KH A H (upd H A.h o) := fun x u e n _ _ => by rw [upd_ne n]; exact e
theorem KH.setb {A : HAd} {H : Hp} {o : HO} : KH A H (upd H A.b o) := fun x u e _ n _ => by rw [upd_ne n]; exact e
theorem KH.sety {A : HAd} {H : Hp} {o : HO} : KH A H (upd H A.sy o) := fun x u e _ _ n => by rw [upd_ne n]; exact e
theorem HdC.nhb {CH : Addr} {H : Hp} {A : HAd} {s : HandS} (c : HdC CH H A s) : A.h ≠ A.b := ne_of c.h c.b (by intro z; cases z)
theorem HdC.nhy {CH : Addr} {H : Hp} {A : HAd} {s : HandS} (c : HdC CH H A s) : A.h ≠ A.sy := ne_of c.h c.y (by intro z; cases z)
theorem HdC.same {CH : Addr} {H H' : Hp} {A : HAd} {s : HandS} (c : HdC CH H A s) (k : Same H H') : HdC CH H' A s := ⟨k _ _ c.h, k _ _ c.b, k _ _ c.y, c.nby, c.bl⟩
theorem HdC.tup {CH : Addr} {H H' : Hp} {A : HAd} {s : HandS} (c : HdC CH H A s) (k : KH A H H') : ∀ x xs, H x = some (.tup xs) → H' x = some (.tup xs) := fun x xs e => k _ _ e (ne_of e c.h (by intro z; cases z)) (ne_of e c.b (by intro z; cases z)) (ne_of e c.y (by intro z; cases z))
theorem HdC.seth {CH : Addr} {H : Hp} {A : HAd} {s : HandS} (c : HdC CH H A s) (n : Nat) (st : Str) : HdC CH (upd H A.h (.ins CH A.hx (hF A.r n A.b A.sy st))) A { s with pos := n, st := st } :=
  ⟨upd_same, by rw [upd_ne c.nhb.symm]; exact c.b, by rw [upd_ne c.nhy.symm]; exact c.y, c.nby, c.bl⟩
theorem HdC.setb {CH : Addr} {H : Hp} {A : HAd} {s : HandS} (c : HdC CH H A s) (bs : List Int) (l : bs.length = 8) : HdC CH (upd H A.b (.lst (bs.map V.int))) A { s with bs := bs } :=
  ⟨by rw [upd_ne c.nhb]; exact c.h, upd_same, by rw [upd_ne c.nby.symm]; exact c.y, c.nby, l⟩
theorem HdC.sety {CH : Addr} {H : Hp} {A : HAd} {s : HandS} (c : HdC CH H A s) (ys : List Int) : HdC CH (upd H A.sy (.lst (ys.map V.int))) A { s with sy := ys } :=
  ⟨by rw [upd_ne c.nhy]; exact c.h, by rw [upd_ne c.nby]; exact c.b, upd_same, c.nby, c.bl⟩
theorem put_at (r b sy : Addr) (n m : Int) (st : Str) : putF "at" (.int m) (hF r n b sy st) = hF r m b sy st := by rfl
theorem put_st (r b sy : Addr) (n : Int) (st st' : Str) : putF "state" (.str st') (hF r n b sy st) = hF r n b sy st' := by rfl
theorem fm_zero (n : Nat) : (List.range n).filterMap (fun _ => some (V.int 0)) = (List.replicate n 0).map V.int := by
  induction n with
  | zero => rfl
  | succ n ih => rw [fm_succ, ih, List.replicate_succ', List.map_append]; rfl
theorem kp_none {H H' : Hp} {o p : Addr} (h : Kp o H H') (ne : p ≠ o) (n : H' p = none) : H p = none := by
  cases e : H p with
  | none => rfl
  | some u => rw [h _ _ e ne] at n; cases n
theorem bx_at : ∀ b : Fin 8, Builtin.Str.occurrences (Str.ofString "abcdefgh") (bxS b.val) 0 (Str.ofString "abcdefgh").length 1 = [b.val] := by decide +kernel
theorem bx_at' {b : Nat} (h : b < 8) : Builtin.Str.occurrences (Str.ofString "abcdefgh") (bxS b) 0 (Str.ofString "abcdefgh").length 1 = [b] := bx_at ⟨b, h⟩
/-! made -/
def spHInit (CH : Addr) (K : PySem.W.Frag) : Sp := fun vs H Q _ => ∃ (a r dx : Addr), vs = [.ref a, .ref r] ∧ H a = some (.ins CH dx []) ∧ ∀ (b sy : Addr) (H' : Hp), H b = none → H sy = none → b ≠ sy →
  H' a = some (.ins CH dx (hF r 0 b sy "waits")) → H' b = some (.lst ((List.replicate 8 0).map V.int)) → H' sy = some (.lst []) → Kp a H H' → Q .non H'
theorem ok_hinit {C_Hand : Addr} {f : Addr} {fd : FuncData} (F : Fun K "__init__" "Hand.__init__" s_Hand_init f fd) (Z_Hand : Cl_Hand K C_Hand) (G_BOXES : Gv mg "BOXES" (.str "abcdefgh")) : FnOk P w K mg base CX0 1 f fd ["self", "rows"] (spHInit C_Hand K) := by
  refine F.ok sc_Hand_init (fun vs H Q E h => ?_) (fun cdv A outer s H vs Q E hr h => ?_)
  · obtain ⟨a, r, dx, rfl, _⟩ := h
    rfl
  · obtain ⟨a, r, dx, rfl, ha, k⟩ := h
    refine ⟨_, (pss_cons (ps_fldK (K := K) rfl (pv 0) (pv 1) rfl)
      (pss_cons (ps_fldK (K := K) rfl (pv 0) pe_int rfl)
      (pss_cons (ps_fldK (K := K) rfl (pv 0) (pe_comp rfl (N := ["box"]) (own := ["box"]) (caps := []) (CompScope.of (by kernel_rfl)) (pi_str (pe_glob (by rfl) G_BOXES.choose_spec.1 G_BOXES.choose_spec.2)) (fun _ _ _ _ => (pg_name (i := 0) (show List.Nodup (["box"] : List Str) by decide +kernel) rfl (Or.inl rfl))) (fun _ _ _ _ => pts_nil) (fun _ _ _ _ => pe_int)) rfl)
      (pss_cons (ps_fldK (K := K) rfl (pv 0) (pe_lst pa_nil) rfl)
      (pss_one (ps_fldK (K := K) rfl (pv 0) pe_str rfl)))))), ?_⟩
    refine ⟨_, rfl, _, rfl, a, C_Hand, dx, [], rfl, ha, Z_Hand.cls, Z_Hand.n_rows, by decide, ?_⟩
    refine ⟨_, rfl, a, C_Hand, dx, _, rfl, upd_same, Z_Hand.cls, Z_Hand.n_at, (by show 1 < 1000; decide), ?_⟩
    refine ⟨_, rfl, fun D hD => ?_⟩
    refine comp_valS (fun _ => some (.int 0)) hD (by decide) (fun i c H1 G F hi s1 kG kF => kF _ H1 (Same.refl _) rfl) (fun H1 s1 e1 => ?_)
    rw [fm_zero] at e1
    refine ⟨_, rfl, a, C_Hand, dx, _, rfl, s1 _ _ upd_same, Z_Hand.cls, Z_Hand.n_in_boxes, (by show 2 < 1000; decide), ?_⟩
    have naD : a ≠ D := ne_of_none upd_same hD
    refine ⟨(by show 0 ≤ sizeLine; decide), fun q hq => ?_⟩
    have naq : a ≠ q := ne_of_none upd_same hq
    refine ⟨_, rfl, a, C_Hand, dx, _, rfl, (by rw [upd_ne naq]; exact upd_same), Z_Hand.cls, Z_Hand.n_sayings, (by show 3 < 1000; decide), ?_⟩
    refine ⟨_, rfl, a, C_Hand, dx, _, rfl, upd_same, Z_Hand.cls, Z_Hand.n_state, (by show 4 < 1000; decide), ?_⟩
    have hD0 : H D = none := by rw [upd_ne naD.symm, upd_ne naD.symm] at hD; exact hD
    have nDq : D ≠ q := by
      intro e
      rw [← e, upd_ne naD.symm, e1] at hq
      cases hq
    have hq0 : H q = none := by
      rw [upd_ne naq.symm] at hq
      cases e : H q with
      | none => rfl
      | some o =>
        have := s1 q o (by rw [upd_ne naq.symm, upd_ne naq.symm]; exact e)
        rw [this] at hq
        cases hq
    refine k D q _ hD0 hq0 nDq ?_ ?_ ?_ ?_
    · rw [upd_same]; rfl
    · rw [upd_ne naD.symm, upd_ne naD.symm, upd_ne nDq, upd_ne naD.symm, e1]; rfl
    · rw [upd_ne naq.symm, upd_ne naq.symm, upd_same]
    · intro x o e n
      have nq : x ≠ q := ne_of_none e hq0
      rw [upd_ne n, upd_ne n, upd_ne nq, upd_ne n]
      exact s1 x o (by rw [upd_ne n, upd_ne n]; exact e)
theorem atI_0 {x : V} {l : List V} : atI (x :: l) 0 = some x := atI_nat (j := 0) rfl
theorem atI_2 {x y z : V} {l : List V} : atI (x :: y :: z :: l) 2 = some z := atI_nat (j := 2) rfl
/-! the cell of a row -/
def cellV (r : Rw) : V := if touch r then .int (cellR r) else .non
def spCellOf (K : PySem.W.Frag) : Sp := fun vs H Q _ => ∃ (v : V) (r : Rw), vs = [v] ∧ Dat H v (rwD r) ∧ ∀ H', Same H H' → Q (cellV r) H'
theorem ok_cellOf {f : Addr} {fd : FuncData} (F : Fun K "cell_of" "cell_of" s_cell_of f fd) : FnOk P w K mg base CX0 1 f fd ["row"] (spCellOf K) := by
  refine F.ok sc_cell_of (fun vs H Q E h => ?_) (fun cdv A outer s H vs Q E hr h => ?_)
  · obtain ⟨v, r, rfl, _⟩ := h
    rfl
  · obtain ⟨v, r, rfl, d, k⟩ := h
    obtain ⟨t, ws, rfl, ht, ps⟩ := at_rw d
    refine ⟨_, (pss_cons (ps_if (pt_cmpR op_eq (pe_ix (ix_tupK (K := K) rfl) (pv 0) pe_int (fun _ _ => rfl)) pe_str (nomark _)) (pss_one (ps_ret (pe_ix (ix_tupK (K := K) rfl) (pv 0) pe_int (fun _ _ => rfl)))) pss_nil)
      (pss_one (ps_ret (pe_ifExp (pt_cmpR (op_in_seqK (K := K) rfl) (pe_ix (ix_tupK (K := K) rfl) (pv 0) pe_int (fun _ _ => rfl)) (pe_tup (pa_cons pe_str (pa_cons pe_str pa_nil))) (by with_unfolding_all rfl)) (pe_ix (ix_tupK (K := K) rfl) (pv 0) pe_int (fun _ _ => rfl)) pe_non)))), ?_⟩
    have cs : (∃ c e, r = .store c e) ∨ ∃ (x : Str) (ys : List V), ws = .str x :: ys ∧ x ≠ Str.ofString "store" ∧ (x = Str.ofString "load" ∨ x = Str.ofString "swap" → ∃ y z, ys = y :: .int (cellR r) :: z ∧ touch r = true) ∧ (x ≠ Str.ofString "load" → x ≠ Str.ofString "swap" → touch r = false) := by
      cases r with
      | store c e => exact .inl ⟨c, e, rfl⟩
      | load b c => exact .inr ⟨_, _, ps, by decide +kernel, fun _ => ⟨_, _, rfl, rfl⟩, fun z => absurd rfl z⟩
      | swap b c e =>
        obtain ⟨x, e1, _⟩ := ps
        exact .inr ⟨_, _, e1, by decide +kernel, fun _ => ⟨_, _, rfl, rfl⟩, fun _ z => absurd rfl z⟩
      | lett b e =>
        obtain ⟨x, e1, _⟩ := ps
        exact .inr ⟨_, _, e1, by decide +kernel, fun z => absurd z (by decide +kernel), fun _ _ => rfl⟩
      | say e =>
        obtain ⟨x, e1, _⟩ := ps
        exact .inr ⟨_, _, e1, by decide +kernel, fun z => absurd z (by decide +kernel), fun _ _ => rfl⟩
      | go n => exact .inr ⟨_, _, ps, by decide +kernel, fun z => absurd z (by decide +kernel), fun _ _ => rfl⟩
      | unl q e f n =>
        obtain ⟨x, y, e1, _⟩ := ps
        exact .inr ⟨_, _, e1, by decide +kernel, fun z => absurd z (by decide +kernel), fun _ _ => rfl⟩
    rcases cs with ⟨c, e, rfl⟩ | ⟨x, ys, rfl, nx, h1, h2⟩
    · obtain ⟨x, rfl, _⟩ := ps
      refine ⟨_, rfl, _, _, _, _, rfl, rfl, SqT.of ht, rfl, rfl, _, rfl, ?_⟩
      refine ite2 (fun _ => ?_) (fun z => absurd (decide_eq_true rfl) z)
      exact ⟨_, rfl, _, _, _, _, rfl, rfl, SqT.of ht, rfl, k H (Same.refl _)⟩
    refine ⟨_, rfl, _, _, _, _, rfl, rfl, SqT.of ht, atI_0, rfl, _, rfl, ?_⟩
    refine ite2 (fun z => absurd (by simpa using of_decide_eq_true z) nx) (fun _ => ?_)
    refine ⟨_, rfl, _, _, _, _, rfl, rfl, SqT.of ht, atI_0, (by show 2 ≤ sizeLine; decide), fun p hp => ?_⟩
    have sp := same_new (o := HO.tup [V.str (Str.ofString "load"), V.str (Str.ofString "swap")]) hp
    refine ⟨p, _, rfl, .inr (SqT.of upd_same), rfl, rfl, _, rfl, ?_⟩
    by_cases z : x = Str.ofString "load" ∨ x = Str.ofString "swap"
    · obtain ⟨y, w', rfl, tr⟩ := h1 z
      refine ite2 (fun _ => ?_) (fun q => absurd ?_ q)
      · refine ⟨_, rfl, _, _, _, _, rfl, rfl, SqT.of (sp _ _ ht), atI_2, ?_⟩
        have := k _ sp
        unfold cellV at this
        rw [if_pos tr] at this
        exact this
      · rcases z with rfl | rfl <;> decide +kernel
    · have n1 : x ≠ Str.ofString "load" := fun q => z (.inl q)
      have n2 : x ≠ Str.ofString "swap" := fun q => z (.inr q)
      have tr := h2 n1 n2
      refine ite2 (fun q => absurd q ?_) (fun _ => ?_)
      · simp [inV, eqV, n1.symm, n2.symm]
      · have := k _ sp
        unfold cellV at this
        rw [if_neg (by rw [tr]; decide)] at this
        exact this

/-! what a part says -/
def exDep : Exx → Nat
  | .one _ => 1
  | .two _ _ _ => 2
def spVal (CH : Addr) (n : Nat) (K : PySem.W.Frag) : Sp := fun vs H Q _ => ∃ (A : HAd) (s : HandS) (v : V) (e : Exx), vs = [.ref A.h, v] ∧ HdC CH H A s ∧ Dat H v (exD e) ∧ exOk e ∧ exDep e ≤ n ∧ Q (.int (vx s.bs e)) H
theorem ok_val0 {C_Hand : Addr} {f : Addr} {fd : FuncData} (F : Fun K "value_of" "Hand.value_of" s_Hand_value_of f fd) : FnOk P w K mg base CX0 1 f fd ["self", "part"] (spVal C_Hand 0 K) := by
  refine F.ok sc_Hand_value_of (fun vs H Q E h => ?_) (fun cdv A outer s H vs Q E hr h => ?_)
  · obtain ⟨A, s, v, e, rfl, _, _, _, z, _⟩ := h
    cases e <;> simp [exDep] at z
  · obtain ⟨A, s, v, e, rfl, _, _, _, z, _⟩ := h
    cases e <;> simp [exDep] at z
theorem ok_valS {C_Hand : Addr} {n : Nat} {f : Addr} {fd : FuncData} (F : Fun K "value_of" "Hand.value_of" s_Hand_value_of f fd) (M_Hand_value_of : MethAt P w K mg base (n + 1) C_Hand "value_of" ["self", "part"] (spVal C_Hand n K)) (Z_Hand : Cl_Hand K C_Hand) (G_BOXES : Gv mg "BOXES" (.str "abcdefgh")) (G_ROUND : Gv mg "ROUND" (.int 1000)) : FnOk P w K mg base CX0 (n + 1 + 1) f fd ["self", "part"] (spVal C_Hand (n + 1) K) := by
  refine F.ok sc_Hand_value_of (fun vs H Q E h => ?_) (fun cdv A outer s H vs Q E hr h => ?_)
  · obtain ⟨A, s, v, e, rfl, _⟩ := h
    rfl
  · obtain ⟨B, z, v, e, rfl, c, d, eo, dp, k⟩ := h
    refine ⟨_, (pss_cons (ps_if (pt_cmpR op_eq (pe_ix (ix_tupK (K := K) rfl) (pv 1) pe_int (fun _ _ => rfl)) pe_str (nomark _)) (pss_one (ps_ret (pe_op op_mod (pe_ix (ix_tupK (K := K) rfl) (pv 1) pe_int (fun _ _ => rfl)) (pe_glob (by rfl) G_ROUND.choose_spec.1 G_ROUND.choose_spec.2)))) pss_nil)
      (pss_cons (ps_if (pt_cmpR op_eq (pe_ix (ix_tupK (K := K) rfl) (pv 1) pe_int (fun _ _ => rfl)) pe_str (nomark _)) (pss_one (ps_ret (pe_ix (ix_listK (K := K) rfl) (pe_fldK (K := K) rfl (pv 0) rfl) (pe_bmK (K := K) rfl PySem.F.plainAttrs_str PySem.F.slot_str_index PySem.F.type_str_index mt_indexS (pe_glob (by rfl) G_BOXES.choose_spec.1 G_BOXES.choose_spec.2) (pa_cons (pe_ix (ix_tupK (K := K) rfl) (pv 1) pe_int (fun _ _ => rfl)) pa_nil)) (fun _ _ => rfl)))) pss_nil)
      (pss_cons (ps_set (i := 2) sc_Hand_value_of.nd rfl (Or.inl rfl) (pe_methA M_Hand_value_of Z_Hand.cls (hr.mono (Nat.le_refl _)) (pv 0) (pa_cons (pe_ix (ix_tupK (K := K) rfl) (pv 1) pe_int (fun _ _ => rfl)) pa_nil)))
      (pss_cons (ps_set (i := 3) sc_Hand_value_of.nd rfl (Or.inl rfl) (pe_methA M_Hand_value_of Z_Hand.cls (hr.mono (Nat.le_refl _)) (pv 0) (pa_cons (pe_ix (ix_tupK (K := K) rfl) (pv 1) pe_int (fun _ _ => rfl)) pa_nil)))
      (pss_one (ps_ret (pe_op op_mod (pe_ifExp (pt_cmpR op_eq (pe_ix (ix_tupK (K := K) rfl) (pv 1) pe_int (fun _ _ => rfl)) pe_str (nomark _)) (pe_op op_add (pv 2) (pv 3)) (pe_op op_sub (pv 2) (pv 3))) (pe_glob (by rfl) G_ROUND.choose_spec.1 G_ROUND.choose_spec.2)))))))), ?_⟩
    match e, d, eo, dp, k with
    | .one (.num m), d, eo, dp, k =>
      obtain ⟨t, rfl, ht⟩ := at_x1 (x := .num m) d
      refine ⟨_, rfl, _, _, _, _, rfl, rfl, SqT.of ht, rfl, rfl, _, rfl, ?_⟩
      refine ite2 (fun _ => ?_) (fun z => absurd (decide_eq_true rfl) z)
      exact ⟨_, rfl, _, _, _, _, rfl, rfl, SqT.of ht, rfl, _, _, rfl, rfl, (by show (0 : Int) < 1000; decide), k⟩
    | .one (.box b), d, eo, dp, k =>
      obtain ⟨t, rfl, ht⟩ := at_x1 (x := .box b) d
      refine ⟨_, rfl, _, _, _, _, rfl, rfl, SqT.of ht, rfl, rfl, _, rfl, ?_⟩
      refine ite2 (fun z => absurd (of_decide_eq_true z) (by decide)) (fun _ => ?_)
      refine ⟨_, rfl, _, _, _, _, rfl, rfl, SqT.of ht, rfl, rfl, _, rfl, ?_⟩
      refine ite2 (fun _ => ?_) (fun z => absurd (decide_eq_true rfl) z)
      have hb : b < 8 := eo
      refine ⟨_, rfl, B.h, C_Hand, B.hx, _, _, rfl, c.h, Z_Hand.cls, Z_Hand.n_in_boxes, rfl, rfl, _, rfl, _, _, _, _, rfl, rfl, SqT.of ht, rfl, _, _, b, [], rfl, rfl, bx_at' hb, _, _, _, _, rfl, rfl, SqL.of c.b, atI_nat (v := .int ((z.bs[b]?).getD 0)) ?_, k⟩
      have hl : b < z.bs.length := by rw [c.bl]; exact hb
      rw [List.getElem?_map, List.getElem?_eq_getElem hl]
      rfl
    | .two p x y, d, eo, dp, k =>
      obtain ⟨t, u, w', rfl, ht, du, dw⟩ := at_two d
      have e1 : exOk (.one x) ∧ exOk (.one y) := eo
      have dn : 1 ≤ n := by
        have : 2 ≤ n + 1 := dp
        omega
      have np : ∀ q : Bool, (Str.ofString "number") ≠ (if q then Str.ofString "plus" else Str.ofString "minus") := by decide +kernel
      have nb : ∀ q : Bool, (Str.ofString "box") ≠ (if q then Str.ofString "plus" else Str.ofString "minus") := by decide +kernel
      refine ⟨_, rfl, _, _, _, _, rfl, rfl, SqT.of ht, rfl, rfl, _, rfl, ?_⟩
      refine ite2 (fun z => absurd (by simpa using (of_decide_eq_true z).symm) (np p)) (fun _ => ?_)
      refine ⟨_, rfl, _, _, _, _, rfl, rfl, SqT.of ht, rfl, rfl, _, rfl, ?_⟩
      refine ite2 (fun z => absurd (by simpa using (of_decide_eq_true z).symm) (nb p)) (fun _ => ?_)
      refine ⟨_, rfl, B.h, B.hx, _, rfl, c.h, rfl, _, rfl, _, _, _, _, rfl, rfl, SqT.of ht, rfl, B, z, u, .one x, rfl, c, du, e1.1, dn, ?_⟩
      refine ⟨_, rfl, B.h, B.hx, _, rfl, c.h, rfl, _, rfl, _, _, _, _, rfl, rfl, SqT.of ht, rfl, B, z, w', .one y, rfl, c, dw, e1.2, dn, ?_⟩
      refine ⟨_, rfl, _, _, _, _, rfl, rfl, SqT.of ht, rfl, rfl, _, rfl, ?_⟩
      cases p with
      | true =>
        refine ite2 (fun _ => ?_) (fun z => absurd (decide_eq_true rfl) z)
        exact ⟨_, rfl, _, rfl, _, _, rfl, rfl, _, _, rfl, rfl, (by show (0 : Int) < 1000; decide), k⟩
      | false =>
        refine ite2 (fun z => absurd (of_decide_eq_true z) (by decide)) (fun _ => ?_)
        exact ⟨_, rfl, _, rfl, _, _, rfl, rfl, _, _, rfl, rfl, (by show (0 : Int) < 1000; decide), k⟩
theorem dep2 (e : Exx) : exDep e ≤ 2 := by cases e <;> simp [exDep]
/-! whether what an unless asks is so -/
def spHolds (CH : Addr) (K : PySem.W.Frag) : Sp := fun vs H Q _ => ∃ (A : HAd) (s : HandS) (v : V) (q : Bool) (e f : Exx) (n : Nat), vs = [.ref A.h, v] ∧ HdC CH H A s ∧ Dat H v (rwD (.unl q e f n)) ∧ exOk e ∧ exOk f ∧ Q (.bl (holdsR s.bs (.unl q e f n))) H
theorem ok_holds {C_Hand : Addr} {f : Addr} {fd : FuncData} (F : Fun K "holds" "Hand.holds" s_Hand_holds f fd) (M_Hand_value_of : MethAt P w K mg base 3 C_Hand "value_of" ["self", "part"] (spVal C_Hand 2 K)) (Z_Hand : Cl_Hand K C_Hand) : FnOk P w K mg base CX0 4 f fd ["self", "row"] (spHolds C_Hand K) := by
  refine F.ok sc_Hand_holds (fun vs H Q E h => ?_) (fun cdv A outer s H vs Q E hr h => ?_)
  · obtain ⟨A, s, v, q, e, f, n, rfl, _⟩ := h
    rfl
  · obtain ⟨B, z, v, q, e, f, n, rfl, c, d, o1, o2, k⟩ := h
    refine ⟨_, (pss_cons (ps_set (i := 2) sc_Hand_holds.nd rfl (Or.inl rfl) (pe_methA M_Hand_value_of Z_Hand.cls (hr.mono (by decide)) (pv 0) (pa_cons (pe_ix (ix_tupK (K := K) rfl) (pv 1) pe_int (fun _ _ => rfl)) pa_nil)))
      (pss_cons (ps_set (i := 3) sc_Hand_holds.nd rfl (Or.inl rfl) (pe_methA M_Hand_value_of Z_Hand.cls (hr.mono (by decide)) (pv 0) (pa_cons (pe_ix (ix_tupK (K := K) rfl) (pv 1) pe_int (fun _ _ => rfl)) pa_nil)))
      (pss_one (ps_ret (pe_ifExp (pt_cmpR op_eq (pe_ix (ix_tupK (K := K) rfl) (pv 1) pe_int (fun _ _ => rfl)) pe_str (nomark _)) (pe_cmpR op_eq (pv 2) (pv 3) (nomark _)) (pe_cmpR op_lt (pv 2) (pv 3) (nomark _))))))), ?_⟩
    obtain ⟨t, ws, rfl, ht, x, y, rfl, dx, dy⟩ := at_rw d
    refine ⟨_, rfl, B.h, B.hx, _, rfl, c.h, rfl, _, rfl, _, _, _, _, rfl, rfl, SqT.of ht, rfl, B, z, x, e, rfl, c, dx, o1, dep2 e, ?_⟩
    refine ⟨_, rfl, B.h, B.hx, _, rfl, c.h, rfl, _, rfl, _, _, _, _, rfl, rfl, SqT.of ht, rfl, B, z, y, f, rfl, c, dy, o2, dep2 f, ?_⟩
    refine ⟨_, rfl, _, _, _, _, rfl, rfl, SqT.of ht, rfl, rfl, _, rfl, ?_⟩
    cases q with
    | true =>
      refine ite2 (fun _ => ?_) (fun z => absurd (decide_eq_true rfl) z)
      refine ⟨_, rfl, _, rfl, rfl, ?_⟩
      have : decide (V.int (vx z.bs e) = V.int (vx z.bs f)) = holdsR z.bs (.unl true e f n) := by
        show _ = decide (vx z.bs e = vx z.bs f)
        rw [Bool.eq_iff_iff, decide_eq_true_iff, decide_eq_true_iff]
        exact ⟨fun z => V.int.inj z, fun z => by rw [z]⟩
      rw [this]
      exact k
    | false =>
      refine ite2 (fun z => absurd (of_decide_eq_true z) (by decide)) (fun _ => ?_)
      exact ⟨_, rfl, _, rfl, _, _, rfl, rfl, k⟩
/-! a box takes a number -/
def spTake (CH : Addr) (K : PySem.W.Frag) : Sp := fun vs H Q _ => ∃ (A : HAd) (s : HandS) (b : Nat) (i : Int), vs = [.ref A.h, .str (bxS b), .int i] ∧ HdC CH H A s ∧ b < 8 ∧ Q .non (upd H A.b (.lst ((s.bs.set b i).map V.int)))
theorem ok_take {C_Hand : Addr} {f : Addr} {fd : FuncData} (F : Fun K "take" "Hand.take" s_Hand_take f fd) (Z_Hand : Cl_Hand K C_Hand) (G_BOXES : Gv mg "BOXES" (.str "abcdefgh")) : FnOk P w K mg base CX0 1 f fd ["self", "box", "number"] (spTake C_Hand K) := by
  refine F.ok sc_Hand_take (fun vs H Q E h => ?_) (fun cdv A outer s H vs Q E hr h => ?_)
  · obtain ⟨A, s, b, i, rfl, _⟩ := h
    rfl
  · obtain ⟨B, z, b, i, rfl, c, hb, k⟩ := h
    refine ⟨_, (pss_one (ps_asg (pv 2) (pg_sub (pe_fldK (K := K) rfl (pv 0) rfl) (pe_bmK (K := K) rfl PySem.F.plainAttrs_str PySem.F.slot_str_index PySem.F.type_str_index mt_indexS (pe_glob (by rfl) G_BOXES.choose_spec.1 G_BOXES.choose_spec.2) (pa_cons (pv 1) pa_nil)) set_list))), ?_⟩
    refine ⟨_, rfl, _, rfl, B.h, C_Hand, B.hx, _, _, rfl, c.h, Z_Hand.cls, Z_Hand.n_in_boxes, rfl, rfl, _, rfl, _, _, b, [], rfl, rfl, bx_at' hb, ?_⟩
    rw [List.map_set] at k
    exact ⟨B.b, _, _, b, rfl, rfl, c.b, (by rw [List.length_map, c.bl]; unfold ixN; rw [if_pos (by omega), if_pos (by omega)]; simp), k⟩

/-! a row that touches no cell -/
def spDo (CH : Addr) (K : PySem.W.Frag) : Sp := fun vs H Q _ => ∃ (A : HAd) (s : HandS) (v : V) (r : Rw) (m : Nat), vs = [.ref A.h, v] ∧ HdC CH H A s ∧ Dat H v (rwD r) ∧ rwOk m r ∧ touch r = false ∧ s.sy.length < 1000000 ∧ ∀ H', HdC CH H' A (doRow s r) → KH A H H' → Q .non H'
theorem ok_do {C_Hand : Addr} {f : Addr} {fd : FuncData} (F : Fun K "do" "Hand.do" s_Hand_do f fd) (M_Hand_value_of : MethAt P w K mg base 3 C_Hand "value_of" ["self", "part"] (spVal C_Hand 2 K)) (M_Hand_take : MethAt P w K mg base 1 C_Hand "take" ["self", "box", "number"] (spTake C_Hand K)) (M_Hand_holds : MethAt P w K mg base 4 C_Hand "holds" ["self", "row"] (spHolds C_Hand K)) (Z_Hand : Cl_Hand K C_Hand) : FnOk P w K mg base CX0 5 f fd ["self", "row"] (spDo C_Hand K) := by
  refine F.ok sc_Hand_do (fun vs H Q E h => ?_) (fun cdv A outer s H vs Q E hr h => ?_)
  · obtain ⟨A, s, v, r, m, rfl, _⟩ := h
    rfl
  · obtain ⟨B, z, v, r, m, rfl, c, d, ro, tr, sl, k⟩ := h
    refine ⟨_, (pss_cons (ps_fldaugK (K := K) rfl (pv 0) pe_int ip_add)
      (pss_one (ps_if (pt_cmpR op_eq (pe_ix (ix_tupK (K := K) rfl) (pv 1) pe_int (fun _ _ => rfl)) pe_str (nomark _)) (pss_one (ps_expr (pe_methA M_Hand_take Z_Hand.cls (hr.mono (by decide)) (pv 0) (pa_cons (pe_ix (ix_tupK (K := K) rfl) (pv 1) pe_int (fun _ _ => rfl)) (pa_cons (pe_methA M_Hand_value_of Z_Hand.cls (hr.mono (by decide)) (pv 0) (pa_cons (pe_ix (ix_tupK (K := K) rfl) (pv 1) pe_int (fun _ _ => rfl)) pa_nil)) pa_nil))))) (pss_one (ps_if (pt_cmpR op_eq (pe_ix (ix_tupK (K := K) rfl) (pv 1) pe_int (fun _ _ => rfl)) pe_str (nomark _)) (pss_one (ps_expr (pe_appendK (K := K) rfl (pe_fldK (K := K) rfl (pv 0) rfl) (pa_cons (pe_methA M_Hand_value_of Z_Hand.cls (hr.mono (by decide)) (pv 0) (pa_cons (pe_ix (ix_tupK (K := K) rfl) (pv 1) pe_int (fun _ _ => rfl)) pa_nil)) pa_nil)))) (pss_one (ps_if (PW.pt (pw_or (pt_cmpR op_eq (pe_ix (ix_tupK (K := K) rfl) (pv 1) pe_int (fun _ _ => rfl)) pe_str (nomark _)) (pw_or1 (pt_not (pt_val (pe_methA M_Hand_holds Z_Hand.cls (hr.mono (by decide)) (pv 0) (pa_cons (pv 1) pa_nil))))))) (pss_one (ps_fldK (K := K) rfl (pv 0) (pe_ix (ix_tupK (K := K) rfl) (pv 1) (pe_un un_neg pe_int) (fun _ _ => rfl)) rfl)) pss_nil))))))), ?_⟩
    refine ⟨_, rfl, B.h, C_Hand, B.hx, _, _, rfl, c.h, Z_Hand.cls, Z_Hand.n_at, rfl, _, _, rfl, rfl, B.hx, _, c.h, (by show 5 < 1000; decide), ?_⟩
    rw [put_at]
    have c1 := c.seth (z.pos + 1) z.st
    have k1 : KH B H (upd H B.h (.ins C_Hand B.hx (hF B.r ((z.pos + 1 : Nat) : Int) B.b B.sy z.st))) := KH.seth
    have d1 := d.keep (c.tup k1) _ (imm_rw r)
    dsimp only
    rw [show ((z.pos : Nat) : Int) + 1 = ((z.pos + 1 : Nat) : Int) by omega]
    generalize (upd H B.h (.ins C_Hand B.hx (hF B.r ((z.pos + 1 : Nat) : Int) B.b B.sy z.st))) = H1 at c1 k1 d1 ⊢
    obtain ⟨t, ws, rfl, ht, ps⟩ := at_rw d1
    cases r with
    | load b cc => cases tr
    | store cc e => cases tr
    | swap b cc e => cases tr
    | lett b e =>
      obtain ⟨x, rfl, dx⟩ := ps
      refine ⟨_, rfl, _, _, _, _, rfl, rfl, SqT.of ht, rfl, rfl, _, rfl, ?_⟩
      refine ite2 (fun _ => ?_) (fun z => absurd (decide_eq_true rfl) z)
      refine ⟨_, rfl, B.h, B.hx, _, rfl, c1.h, rfl, _, rfl, _, _, _, _, rfl, rfl, SqT.of ht, rfl, _, rfl, B.h, B.hx, _, rfl, c1.h, rfl, _, rfl, _, _, _, _, rfl, rfl, SqT.of ht, rfl, B, _, x, e, rfl, c1, dx, ro.2, dep2 e, ?_⟩
      exact ⟨B, _, b, _, rfl, c1, ro.1, k _ (c1.setb _ (by rw [List.length_set]; exact c1.bl)) (k1.trans KH.setb)⟩
    | say e =>
      obtain ⟨x, rfl, dx⟩ := ps
      refine ⟨_, rfl, _, _, _, _, rfl, rfl, SqT.of ht, rfl, rfl, _, rfl, ?_⟩
      refine ite2 (fun z => absurd (of_decide_eq_true z) (by decide)) (fun _ => ?_)
      refine ⟨_, rfl, _, _, _, _, rfl, rfl, SqT.of ht, rfl, rfl, _, rfl, ?_⟩
      refine ite2 (fun _ => ?_) (fun z => absurd (decide_eq_true rfl) z)
      refine ⟨_, rfl, B.h, C_Hand, B.hx, _, _, rfl, c1.h, Z_Hand.cls, Z_Hand.n_sayings, rfl, .inl ⟨rfl, _, SqL.of c1.y⟩, _, rfl, B.h, B.hx, _, rfl, c1.h, rfl, _, rfl, _, _, _, _, rfl, rfl, SqT.of ht, rfl, B, _, x, e, rfl, c1, dx, ro, dep2 e, ?_⟩
      refine ⟨_, _, _, rfl, rfl, c1.y, (by rw [List.length_map, sizeLine_eq]; show z.sy.length < _; omega), ?_⟩
      have := k _ (c1.sety (z.sy ++ [vx z.bs e])) (k1.trans KH.sety)
      rw [List.map_append] at this
      exact this
    | go n =>
      obtain rfl := ps
      refine ⟨_, rfl, _, _, _, _, rfl, rfl, SqT.of ht, rfl, rfl, _, rfl, ?_⟩
      refine ite2 (fun z => absurd (of_decide_eq_true z) (by decide)) (fun _ => ?_)
      refine ⟨_, rfl, _, _, _, _, rfl, rfl, SqT.of ht, rfl, rfl, _, rfl, ?_⟩
      refine ite2 (fun z => absurd (of_decide_eq_true z) (by decide)) (fun _ => ?_)
      refine ⟨_, rfl, _, _, _, _, rfl, rfl, SqT.of ht, rfl, rfl, _, rfl, ?_⟩
      refine ite2 (fun _ => ?_) (fun z => absurd (decide_eq_true rfl) z)
      refine iteT ?_
      refine ⟨_, rfl, _, rfl, _, _, _, _, rfl, rfl, SqT.of ht, rfl, _, rfl, B.h, C_Hand, B.hx, _, rfl, c1.h, Z_Hand.cls, Z_Hand.n_at, (by show 5 < 1000; decide), ?_⟩
      rw [put_at]
      exact k _ (c1.seth n z.st) (k1.trans KH.seth)
    | unl q e f n =>
      obtain ⟨x, y, rfl, dx, dy⟩ := ps
      refine ⟨_, rfl, _, _, _, _, rfl, rfl, SqT.of ht, rfl, rfl, _, rfl, ?_⟩
      refine ite2 (fun z => absurd (of_decide_eq_true z) (by decide)) (fun _ => ?_)
      refine ⟨_, rfl, _, _, _, _, rfl, rfl, SqT.of ht, rfl, rfl, _, rfl, ?_⟩
      refine ite2 (fun z => absurd (of_decide_eq_true z) (by decide)) (fun _ => ?_)
      refine ⟨_, rfl, _, _, _, _, rfl, rfl, SqT.of ht, rfl, rfl, _, rfl, ?_⟩
      refine ite2 (fun z => absurd (of_decide_eq_true z) (by decide)) (fun _ => ?_)
      refine ⟨_, rfl, B.h, B.hx, _, rfl, c1.h, rfl, _, rfl, B, _, _, q, e, f, n, rfl, c1, d1, ro.1, ro.2, _, rfl, ?_⟩
      cases hh : holdsR z.bs (.unl q e f n) with
      | true =>
        refine iteF ?_
        refine k _ ?_ k1
        show HdC C_Hand H1 B { z with pos := if holdsR z.bs (.unl q e f n) then z.pos + 1 else n }
        rw [hh]
        exact c1
      | false =>
        refine iteT ?_
        refine ⟨_, rfl, _, rfl, _, _, _, _, rfl, rfl, SqT.of ht, rfl, _, rfl, B.h, C_Hand, B.hx, _, rfl, c1.h, Z_Hand.cls, Z_Hand.n_at, (by show 5 < 1000; decide), ?_⟩
        rw [put_at]
        refine k _ ?_ (k1.trans KH.seth)
        show HdC C_Hand _ B { z with pos := if holdsR z.bs (.unl q e f n) then z.pos + 1 else n }
        rw [hh]
        exact c1.seth n z.st

/-! on to the next touch -/
def RowsH (H : Hp) (r : Addr) (m : Nat) (rws : List Rw) : Prop := ∃ ts, H r = some (.lst ts) ∧ Dats H ts (rws.map rwD) ∧ (∀ x ∈ rws, rwOk m x) ∧ rws.length ≤ 1000
theorem imms_rws (rws : List Rw) : imms (rws.map rwD) = true := imms_map rwD imm_rw rws
theorem RowsH.keep {H H' : Hp} {r : Addr} {m : Nat} {rws : List Rw} (h : RowsH H r m rws) (k : ∀ o, H r = some o → H' r = some o) (t : ∀ x xs, H x = some (.tup xs) → H' x = some (.tup xs)) : RowsH H' r m rws := by
  obtain ⟨ts, e, d, q⟩ := h
  exact ⟨ts, k _ e, d.keep t _ (imms_rws rws), q⟩
theorem RowsH.same {H H' : Hp} {r : Addr} {m : Nat} {rws : List Rw} (h : RowsH H r m rws) (k : Same H H') : RowsH H' r m rws := h.keep (fun o e => k _ _ e) k.tups
def spLead (CH : Addr) (K : PySem.W.Frag) : Sp := fun vs H Q _ => ∃ (A : HAd) (s : HandS) (m : Nat), vs = [.ref A.h] ∧ HdC CH H A s ∧ RowsH H A.r m s.rws ∧ A.r ≠ A.b ∧ A.r ≠ A.sy ∧ s.sy.length < 900000 ∧ ∀ H', HdC CH H' A (lead s) → KH A H H' → Q .non H'
theorem ok_lead {C_Hand : Addr} {f : Addr} {fd : FuncData} (F : Fun K "lead_on" "Hand.lead_on" s_Hand_lead_on f fd) (F_cell_of : FnAt P w K mg base 1 "cell_of" ["row"] (spCellOf K)) (M_Hand_do : MethAt P w K mg base 5 C_Hand "do" ["self", "row"] (spDo C_Hand K)) (Z_Hand : Cl_Hand K C_Hand) (G_MOST_UNTOUCHING : Gv mg "MOST_UNTOUCHING" (.int 60)) (Bt : Blt mg) : FnOk P w K mg base CX0 6 f fd ["self"] (spLead C_Hand K) := by
  refine F.ok sc_Hand_lead_on (fun vs H Q E h => ?_) (fun cdv A outer s H vs Q E hr h => ?_)
  · obtain ⟨A, s, m, rfl, _⟩ := h
    rfl
  · obtain ⟨B, s, m, rfl, c, R, nrb, nry, sl, k⟩ := h
    refine ⟨_, (pss_cons (ps_set (i := 1) sc_Hand_lead_on.nd rfl (Or.inl rfl) pe_int)
      (pss_cons (ps_while PassesOwn.never (PW.pt (pw_and (pt_cmpR op_lt (pe_fldK (K := K) rfl (pv 0) rfl) (pe_callB (call_len_seqK (K := K) rfl) (by rfl) Bt.b_len bt_len (pa_cons (pe_fldK (K := K) rfl (pv 0) rfl) pa_nil)) (nomark _)) (pw_and1 (pt_cmpR op_isN (pe_fn F_cell_of (hr.mono (by decide)) (by rfl) (pa_cons (pe_ix (ix_listK (K := K) rfl) (pe_fldK (K := K) rfl (pv 0) rfl) (pe_fldK (K := K) rfl (pv 0) rfl) (fun _ _ => rfl)) pa_nil)) pe_non (nomark _))))) (pss_cons (ps_if (pt_cmpR op_eq (pv 1) (pe_glob (by rfl) G_MOST_UNTOUCHING.choose_spec.1 G_MOST_UNTOUCHING.choose_spec.2) (nomark _)) (pss_cons (ps_fldK (K := K) rfl (pv 0) pe_str rfl)
      (pss_one ps_retN)) pss_nil)
      (pss_cons (ps_expr (pe_methA M_Hand_do Z_Hand.cls (hr.mono (by decide)) (pv 0) (pa_cons (pe_ix (ix_listK (K := K) rfl) (pe_fldK (K := K) rfl (pv 0) rfl) (pe_fldK (K := K) rfl (pv 0) rfl) (fun _ _ => rfl)) pa_nil)))
      (pss_one (ps_aug (i := 1) sc_Hand_lead_on.nd rfl (Or.inl rfl) pe_int ip_add)))))
      (pss_one (ps_fldK (K := K) rfl (pv 0) (pe_ifExp (pt_cmpR op_lt (pe_fldK (K := K) rfl (pv 0) rfl) (pe_callB (call_len_seqK (K := K) rfl) (by rfl) Bt.b_len bt_len (pa_cons (pe_fldK (K := K) rfl (pv 0) rfl) pa_nil)) (nomark _)) pe_str pe_str) rfl)))), ?_⟩
    have nrh : B.r ≠ B.h := by
      obtain ⟨ts, e, _⟩ := R
      exact ne_of e c.h (by intro z; cases z)
    refine ⟨fun n σ H1 => ∃ (d : Nat) (z : HandS), σ = [some (.ref B.h), some (.int d)] ∧ d ≤ 60 ∧ n = 60 - d ∧ HdC C_Hand H1 B z ∧ KH B H H1 ∧ led (60 - d) z = lead s ∧ z.rws = s.rws ∧ z.sy.length ≤ s.sy.length + d,
      ⟨60, 0, s, rfl, by decide, rfl, c, KH.of_same (Same.refl _), rfl, rfl, Nat.le_refl _⟩, fun n σ H1 hσ => ?_⟩
    obtain ⟨d, z, rfl, d60, rfl, c1, k1, hl, zr, zs⟩ := hσ
    have R1 : RowsH H1 B.r m z.rws := by
      rw [zr]
      exact R.keep (fun o e => k1 _ _ e nrh nrb nry) (c.tup k1)
    obtain ⟨ts, hts, dts, ro, rl⟩ := R1
    have ln : ts.length = z.rws.length := by rw [dts.length, List.length_map]
    refine ⟨_, rfl, B.h, C_Hand, B.hx, _, _, rfl, c1.h, Z_Hand.cls, Z_Hand.n_at, rfl, _, rfl, B.h, C_Hand, B.hx, _, _, rfl, c1.h, Z_Hand.cls, Z_Hand.n_rows, rfl, B.r, _, rfl, .inl (SqL.of hts), _, _, rfl, rfl, _, rfl, ?_⟩
    cases er : z.rws[z.pos]? with
    | none =>
      have ge : z.rws.length ≤ z.pos := List.getElem?_eq_none_iff.mp er
      have lf : ¬ decide (((z.pos : Nat) : Int) < ((ts.length : Nat) : Int)) = true := by rw [ln]; simp; omega
      refine ite2 (fun q => absurd q lf) (fun _ => ?_)
      refine iteF ?_
      refine ⟨_, rfl, B.h, C_Hand, B.hx, _, _, rfl, c1.h, Z_Hand.cls, Z_Hand.n_at, rfl, _, rfl, B.h, C_Hand, B.hx, _, _, rfl, c1.h, Z_Hand.cls, Z_Hand.n_rows, rfl, B.r, _, rfl, .inl (SqL.of hts), _, _, rfl, rfl, _, rfl, ?_⟩
      refine ite2 (fun q => absurd q lf) (fun _ => ?_)
      refine ⟨_, rfl, B.h, C_Hand, B.hx, _, rfl, c1.h, Z_Hand.cls, Z_Hand.n_state, (by show 5 < 1000; decide), ?_⟩
      rw [put_st]
      refine k _ ?_ (k1.trans KH.seth)
      have : lead s = { z with st := "ends" } := by
        rw [← hl]
        cases e60 : 60 - d <;> simp only [led, er]
      rw [this]
      exact c1.seth z.pos "ends"
    | some r =>
      have lt : z.pos < z.rws.length := (List.getElem?_eq_some_iff.mp er).1
      have lT : decide (((z.pos : Nat) : Int) < ((ts.length : Nat) : Int)) = true := by rw [ln]; simp; omega
      obtain ⟨v, ev, dv⟩ := dts.getD (i := z.pos) (d := rwD r) (by rw [List.getElem?_map, er]; rfl)
      refine ite2 (fun _ => ?_) (fun q => absurd lT q)
      refine ⟨_, rfl, B.h, C_Hand, B.hx, _, _, rfl, c1.h, Z_Hand.cls, Z_Hand.n_rows, rfl, _, rfl, B.h, C_Hand, B.hx, _, _, rfl, c1.h, Z_Hand.cls, Z_Hand.n_at, rfl, _, _, _, _, rfl, rfl, SqL.of hts, atI_nat ev, v, r, rfl, dv, fun H2 s2 => ⟨rfl, _, rfl, ?_⟩⟩
      have c2 := c1.same s2
      have hts2 := s2 _ _ hts
      have k2 := k1.trans (KH.of_same (A := B) s2)
      cases tr : touch r with
      | true =>
        refine ite2 (fun q => absurd (of_decide_eq_true q) (by unfold cellV; rw [if_pos tr]; intro z; cases z)) (fun _ => ?_)
        refine ⟨_, rfl, B.h, C_Hand, B.hx, _, _, rfl, c2.h, Z_Hand.cls, Z_Hand.n_at, rfl, _, rfl, B.h, C_Hand, B.hx, _, _, rfl, c2.h, Z_Hand.cls, Z_Hand.n_rows, rfl, B.r, _, rfl, .inl (SqL.of hts2), _, _, rfl, rfl, _, rfl, ?_⟩
        refine ite2 (fun _ => ?_) (fun q => absurd lT q)
        refine ⟨_, rfl, B.h, C_Hand, B.hx, _, rfl, c2.h, Z_Hand.cls, Z_Hand.n_state, (by show 5 < 1000; decide), ?_⟩
        rw [put_st]
        refine k _ ?_ (k2.trans KH.seth)
        have : lead s = { z with st := "waits" } := by
          rw [← hl]
          cases e60 : 60 - d <;> simp only [led, er, tr, if_true]
        rw [this]
        exact c2.seth z.pos "waits"
      | false =>
        refine ite2 (fun _ => ?_) (fun q => absurd (decide_eq_true (by unfold cellV; rw [if_neg (by rw [tr]; decide)])) q)
        refine ⟨fun σ' H' => ∃ m', m' < 60 - d ∧ ∃ (d : Nat) (z : HandS), σ' = [some (.ref B.h), some (.int d)] ∧ d ≤ 60 ∧ m' = 60 - d ∧ HdC C_Hand H' B z ∧ KH B H H' ∧ led (60 - d) z = lead s ∧ z.rws = s.rws ∧ z.sy.length ≤ s.sy.length + d, fun _ _ q => q, ?_⟩
        refine ⟨_, rfl, rfl, _, rfl, ?_⟩
        by_cases e6 : d = 60
        · subst e6
          refine ite2 (fun _ => ?_) (fun q => absurd (decide_eq_true rfl) q)
          refine ⟨_, rfl, B.h, C_Hand, B.hx, _, rfl, c2.h, Z_Hand.cls, Z_Hand.n_state, (by show 5 < 1000; decide), ?_⟩
          rw [put_st]
          refine k _ ?_ (k2.trans KH.seth)
          have : lead s = { z with st := "lost" } := by
            rw [← hl]
            show led 0 z = _
            simp only [led, er, tr]
            rfl
          rw [this]
          exact c2.seth z.pos "lost"
        · refine ite2 (fun q => absurd (by have := V.int.inj (of_decide_eq_true q); omega) e6) (fun _ => ?_)
          refine ⟨_, rfl, B.h, B.hx, _, rfl, c2.h, rfl, _, rfl, B.h, C_Hand, B.hx, _, _, rfl, c2.h, Z_Hand.cls, Z_Hand.n_rows, rfl, _, rfl, B.h, C_Hand, B.hx, _, _, rfl, c2.h, Z_Hand.cls, Z_Hand.n_at, rfl, _, _, _, _, rfl, rfl, SqL.of hts2, atI_nat ev, B, z, v, r, m, rfl, c2, dv.same s2 _, ro r (List.mem_of_getElem? er), tr, by omega, fun H3 c3 k3 => ?_⟩
          refine ⟨_, rfl, _, _, rfl, rfl, 60 - (d + 1), by omega, d + 1, doRow z r, rfl, by omega, rfl, c3, k2.trans k3, ?_, by rw [doRow_rws, zr], ?_⟩
          · rw [← hl, show 60 - d = (60 - (d + 1)) + 1 by omega]
            simp only [led, er, tr]
            rfl
          · have := doRow_sy z r
            omega

/-! ### works in general -/
def wF (pg nb hs tn : Addr) : List (Str × V) := [("program", .ref pg), ("numbers", .ref nb), ("hands", .ref hs), ("turns", .ref tn)]
/-! first numbers -/
def numOkL (m : Int) (ns : List Int) : Prop := (ns.length : Int) = m ∧ ∀ x ∈ ns, 0 ≤ x ∧ x < 1000
def spCheckNum (CN : Addr) (K : PySem.W.Frag) : Sp := fun vs H Q E => ∃ (cl : Addr) (m : Int) (ns : List Int), vs = [.ref cl, .int m] ∧ H cl = some (.lst (ns.map V.int)) ∧ ns.length ≤ 100 ∧ (numOkL m ns → ∀ H', Same H H' → Q .non H') ∧ (¬ numOkL m ns → ∀ H', Same H H' → E (.ref CN) none H')
theorem ok_checkNum {f : Addr} {fd : FuncData} (F : Fun K "check_numbers" "check_numbers" s_check_numbers f fd) (F_is_below : FnAt P w K mg base 2 "is_below" ["value", "count"] (spBelow K)) (G_ROUND : Gv mg "ROUND" (.int 1000)) (Bt : Blt mg) {C_NoNumber : Addr} (X_NoNumber : Xr K mg C_NoNumber "NoNumber") : FnOk P w K mg base (CX1 P w) 3 f fd ["cells", "count"] (spCheckNum C_NoNumber K) := by
  refine F.okX sc_check_numbers (fun vs H Q E h => ?_) (fun cdv A outer s H vs Q E hr h hR => ?_)
  · obtain ⟨cl, m, ns, rfl, _⟩ := h
    rfl
  · obtain ⟨cl, m, ns, rfl, hc, nl, k1, k2⟩ := h
    refine ⟨_, (pss_cons (ps_if (PW.pt (pw_or (pt_not (pt_val (pe_callB (call_isiK (K := K) (cv := .ty "list") (c := .type "list") rfl rfl) (by rfl) Bt.b_isinstance bt_isinstance (pa_cons (pv 0) (pa_cons (pe_bltn (v := .ty "list") (by rfl) Bt.b_list bt_list rfl) pa_nil))))) (pw_or1 (pt_cmpR op_ne (pe_callB (call_len_seqK (K := K) rfl) (by rfl) Bt.b_len bt_len (pa_cons (pv 0) pa_nil)) (pv 1) (nomark _))))) (pss_one (ps_raise PySem.F.excBase_ValueError X_NoNumber.ex X_NoNumber.bd (by rfl) rfl rfl hR (pa_cons pe_str pa_nil))) pss_nil)
      (pss_one (ps_if (pt_not (pt_val (pe_callB (call_all_boolsK (K := K) rfl rfl) (by rfl) Bt.b_all bt_all (pa_cons (pe_comp rfl (N := ["number"]) (own := ["number"]) (caps := []) (CompScope.of (by kernel_rfl)) (pi_listK (K := K) rfl (pv 0)) (fun _ _ _ _ => (pg_name (i := 0) (show List.Nodup (["number"] : List Str) by decide +kernel) rfl (Or.inl rfl))) (fun _ _ _ _ => pts_nil) (fun _ _ _ _ => (pe_fn F_is_below (hr.mono (by decide)) (by rfl) (pa_cons (pv 0) (pa_cons (pe_glob (by rfl) G_ROUND.choose_spec.1 G_ROUND.choose_spec.2) pa_nil))))) pa_nil)))) (pss_one (ps_raise PySem.F.excBase_ValueError X_NoNumber.ex X_NoNumber.bd (by rfl) rfl rfl hR (pa_cons pe_str pa_nil))) pss_nil))), ?_⟩
    refine ⟨_, rfl, _, _, true, rfl, .lst hc, isi_list_list K, true, rfl, ?_⟩
    refine iteF ?_
    refine ⟨_, rfl, cl, _, rfl, .inl (SqL.of hc), _, rfl, rfl, _, rfl, ?_⟩
    rw [List.length_map]
    by_cases el : (ns.length : Int) = m
    rotate_left
    · refine ite2 (fun _ => ?_) (fun z => absurd (by simp [el]) z)
      exact ⟨(by show 1 ≤ sizeLine; decide), k2 (fun z => el z.1) H (Same.refl _)⟩
    refine iteNS (by rw [el]) ?_
    refine ⟨_, rfl, cl, rfl, ⟨_, SqL.of hc⟩, fun D hD => ?_⟩
    refine comp_val (K := K) (fun i => (ns[i]?).map fun x => V.bl (decide (inP x 1000))) hD (SqL.of hc) (by rw [List.length_map]; omega) (fun i v H2 G F hi s2 kG kF => ?_) (fun H2 s2 e2 => ?_)
    · rw [List.getElem?_map] at hi
      cases ei : ns[i]? with
      | none => rw [ei] at hi; cases hi
      | some z =>
        rw [ei] at hi
        cases hi
        exact ⟨_, rfl, z, 1000, rfl, kF _ H2 (Same.refl _) (by rw [ei]; rfl)⟩
    rw [List.length_map, fm_some] at e2
    refine ⟨D, ns.map (fun x => decide (inP x 1000)), rfl, SqL.of (by rw [e2, List.map_map]; rfl), _, rfl, ?_⟩
    by_cases al : ∀ x ∈ ns, inP x 1000
    · have ea : (ns.map (fun x => decide (inP x 1000))).all id = true := by
        rw [List.all_map, List.all_eq_true]
        intro h hh
        exact decide_eq_true (al h hh)
      rw [ea]
      refine iteF ?_
      exact k1 ⟨el, fun x hx => al x hx⟩ H2 s2
    · have ea : (ns.map (fun x => decide (inP x 1000))).all id = false := by
        rw [List.all_map, ← Bool.not_eq_true, List.all_eq_true]
        intro z
        exact al fun h hh => of_decide_eq_true (p := inP h 1000) (z h hh)
      rw [ea]
      refine iteT ?_
      exact ⟨(by show 1 ≤ sizeLine; decide), k2 (fun z => al fun x hx => z.2 x hx) H2 s2⟩
/-! a touch -/
def spTouchBy (CW CH : Addr) (K : PySem.W.Frag) : Sp := fun vs H Q _ => ∃ (o dx pg nb hl tn : Addr) (A : HAd) (s : HandS) (m : Nat) (ns : List Int) (r : Rw), vs = [.ref o, .ref A.h] ∧ H o = some (.ins CW dx (wF pg nb hl tn)) ∧ H nb = some (.lst (ns.map V.int)) ∧ ns.length = m ∧ HdC CH H A s ∧ RowsH H A.r m s.rws ∧
  s.rws[s.pos]? = some r ∧ touch r = true ∧ nb ≠ A.b ∧ nb ≠ A.sy ∧
  ∀ t H', H t = none → H' t = some (.tup (touchV ns s.bs r)) → HdC CH H' A { s with bs := boxesR ns s.bs r } → H' nb = some (.lst ((cellsR ns s.bs r).map V.int)) → (∀ x u, H x = some u → x ≠ nb → x ≠ A.b → H' x = some u) → Q (.ref t) H'
theorem ok_touchBy {C_Works C_Hand : Addr} {f : Addr} {fd : FuncData} (F : Fun K "touch_by" "Works.touch_by" s_Works_touch_by f fd) (F_cell_of : FnAt P w K mg base 1 "cell_of" ["row"] (spCellOf K)) (M_Hand_value_of : MethAt P w K mg base 3 C_Hand "value_of" ["self", "part"] (spVal C_Hand 2 K)) (M_Hand_take : MethAt P w K mg base 1 C_Hand "take" ["self", "box", "number"] (spTake C_Hand K)) (Z_Works : Cl_Works K C_Works) (Z_Hand : Cl_Hand K C_Hand) : FnOk P w K mg base CX0 4 f fd ["self", "one"] (spTouchBy C_Works C_Hand K) := by
  refine F.ok sc_Works_touch_by (fun vs H Q E h => ?_) (fun cdv A outer s H vs Q E hr h => ?_)
  · obtain ⟨o, dx, pg, nb, hl, tn, A, s, m, ns, r, rfl, _⟩ := h
    rfl
  · obtain ⟨o, dx, pg, nb, hl, tn, B, z, m, ns, r, rfl, ho, hnb, nl, c, R, er, tr, nnb, nny, k⟩ := h
    refine ⟨_, (pss_cons (ps_set (i := 2) sc_Works_touch_by.nd rfl (Or.inl rfl) (pe_ix (ix_listK (K := K) rfl) (pe_fldK (K := K) rfl (pv 1) rfl) (pe_fldK (K := K) rfl (pv 1) rfl) (fun _ _ => rfl)))
      (pss_cons (ps_set (i := 3) sc_Works_touch_by.nd rfl (Or.inl rfl) (pe_fn F_cell_of (hr.mono (by decide)) (by rfl) (pa_cons (pv 2) pa_nil)))
      (pss_cons (ps_set (i := 4) sc_Works_touch_by.nd rfl (Or.inl rfl) (pe_ifExp (pt_cmpR op_eq (pe_ix (ix_tupK (K := K) rfl) (pv 2) pe_int (fun _ _ => rfl)) pe_str (nomark _)) pe_non (pe_ix (ix_listK (K := K) rfl) (pe_fldK (K := K) rfl (pv 0) rfl) (pv 3) (fun _ _ => rfl))))
      (pss_cons (ps_set (i := 5) sc_Works_touch_by.nd rfl (Or.inl rfl) (pe_ifExp (pt_cmpR op_eq (pe_ix (ix_tupK (K := K) rfl) (pv 2) pe_int (fun _ _ => rfl)) pe_str (nomark _)) pe_non (pe_methA M_Hand_value_of Z_Hand.cls (hr.mono (by decide)) (pv 1) (pa_cons (pe_ix (ix_tupK (K := K) rfl) (pv 2) (pe_un un_neg pe_int) (fun _ _ => rfl)) pa_nil))))
      (pss_cons (ps_if (pt_cmpR op_notN (pv 4) pe_non (nomark _)) (pss_one (ps_expr (pe_methA M_Hand_take Z_Hand.cls (hr.mono (by decide)) (pv 1) (pa_cons (pe_ix (ix_tupK (K := K) rfl) (pv 2) pe_int (fun _ _ => rfl)) (pa_cons (pv 4) pa_nil))))) pss_nil)
      (pss_cons (ps_if (pt_cmpR op_notN (pv 5) pe_non (nomark _)) (pss_one (ps_asg (pv 5) (pg_sub (pe_fldK (K := K) rfl (pv 0) rfl) (pv 3) set_list))) pss_nil)
      (pss_one (ps_ret (pe_tup (pa_cons (pe_ix (ix_tupK (K := K) rfl) (pv 2) pe_int (fun _ _ => rfl)) (pa_cons (pv 3) (pa_cons (pv 4) (pa_cons (pv 5) pa_nil))))))))))))), ?_⟩
    obtain ⟨ts, hts, dts, ro, rl⟩ := R
    obtain ⟨v, ev, dv⟩ := dts.getD (i := z.pos) (d := rwD r) (by rw [List.getElem?_map, er]; rfl)
    have rok := ro r (List.mem_of_getElem? er)
    refine ⟨_, rfl, B.h, C_Hand, B.hx, _, _, rfl, c.h, Z_Hand.cls, Z_Hand.n_rows, rfl, _, rfl, B.h, C_Hand, B.hx, _, _, rfl, c.h, Z_Hand.cls, Z_Hand.n_at, rfl, _, _, _, _, rfl, rfl, SqL.of hts, atI_nat ev, ?_⟩
    refine ⟨_, rfl, v, r, rfl, dv, fun H1 s1 => ?_⟩
    have c1 := c.same s1
    have ho1 := s1 _ _ ho
    have hnb1 := s1 _ _ hnb
    obtain ⟨t, ws, rfl, ht, ps⟩ := at_rw (dv.same s1 _)
    have nob : o ≠ nb := ne_of ho1 hnb1 (by intro z; cases z)
    have noB : o ≠ B.b := ne_of ho1 c1.b (by intro z; cases z)
    have ntb : t ≠ B.b := ne_of ht c1.b (by intro z; cases z)
    have ntn : t ≠ nb := ne_of ht hnb1 (by intro z; cases z)
    have cellOf : ∀ cc, cc < m → ns[cc]? = some ((ns[cc]?).getD 0) := fun cc h => by rw [List.getElem?_eq_getElem (by omega)]; rfl
    have cellAt : ∀ cc, cc < m → (ns.map V.int)[cc]? = some (.int ((ns[cc]?).getD 0)) := fun cc h => by rw [List.getElem?_map, cellOf cc h]; rfl
    have ixAt : ∀ cc, cc < m → ixN (ns.map V.int).length ((cc : Nat) : Int) = some cc := fun cc h => by rw [List.length_map]; unfold ixN; rw [if_pos (by omega), if_pos (by omega)]; simp
    cases r with
    | load b cc =>
      obtain rfl := ps
      refine ⟨_, rfl, _, _, _, _, rfl, rfl, SqT.of ht, rfl, rfl, _, rfl, ?_⟩
      refine ite2 (fun z => absurd (of_decide_eq_true z) (by decide)) (fun _ => ?_)
      refine ⟨_, rfl, o, C_Works, dx, _, _, rfl, ho1, Z_Works.cls, Z_Works.n_numbers, rfl, _, rfl, _, _, _, _, rfl, rfl, SqL.of hnb1, atI_nat (cellAt cc rok.2), ?_⟩
      refine ⟨_, rfl, _, _, _, _, rfl, rfl, SqT.of ht, rfl, rfl, _, rfl, ?_⟩
      refine ite2 (fun _ => ?_) (fun z => absurd (decide_eq_true rfl) z)
      refine ⟨_, rfl, rfl, _, rfl, ?_⟩
      refine iteT ?_
      refine ⟨_, rfl, B.h, B.hx, _, rfl, c1.h, rfl, _, rfl, _, _, _, _, rfl, rfl, SqT.of ht, rfl, _, rfl, B, z, b, _, rfl, c1, rok.1, ?_⟩
      refine ⟨_, rfl, rfl, _, rfl, ?_⟩
      refine iteF ?_
      have c2 := c1.setb (z.bs.set b ((ns[cc]?).getD 0)) (by rw [List.length_set]; exact c1.bl)
      refine ⟨_, rfl, _, _, _, _, rfl, rfl, SqT.of (by rw [upd_ne ntb]; exact ht), rfl, _, rfl, _, rfl, _, rfl, (by show 4 ≤ sizeLine; decide), fun p hp => ?_⟩
      have sp := same_new (o := HO.tup [V.str (Str.ofString "load"), V.int cc, V.int ((ns[cc]?).getD 0), V.non]) hp
      refine k p _ ?_ ?_ (c2.same sp) (sp _ _ (by rw [upd_ne nnb]; exact hnb1)) ?_
      · refine s1.free ?_
        have : p ≠ B.b := fun e => by rw [e, upd_same] at hp; cases hp
        rw [upd_ne this] at hp
        exact hp
      · rw [upd_same]
        show some (HO.tup [V.str (Str.ofString "load"), V.int cc, V.int ((ns[cc]?).getD 0), V.non]) = some (HO.tup [V.str (Str.ofString "load"), V.int cc, oV (ns[cc]?), V.non])
        rw [cellOf cc rok.2]
        rfl
      · intro x u e n1 n2
        exact sp _ _ (by rw [upd_ne n2]; exact s1 _ _ e)
    | store cc e =>
      obtain ⟨x, rfl, dx'⟩ := ps
      refine ⟨_, rfl, _, _, _, _, rfl, rfl, SqT.of ht, rfl, rfl, _, rfl, ?_⟩
      refine ite2 (fun _ => ?_) (fun z => absurd (decide_eq_true rfl) z)
      refine ⟨_, rfl, _, _, _, _, rfl, rfl, SqT.of ht, rfl, rfl, _, rfl, ?_⟩
      refine ite2 (fun z => absurd (of_decide_eq_true z) (by decide)) (fun _ => ?_)
      refine ⟨_, rfl, B.h, B.hx, _, rfl, c1.h, rfl, _, rfl, _, rfl, _, _, _, _, rfl, rfl, SqT.of ht, rfl, B, z, x, e, rfl, c1, dx', rok.2, dep2 e, ?_⟩
      refine ⟨_, rfl, rfl, _, rfl, ?_⟩
      refine iteF ?_
      refine ⟨_, rfl, rfl, _, rfl, ?_⟩
      refine iteT ?_
      refine ⟨_, rfl, _, rfl, o, C_Works, dx, _, _, rfl, ho1, Z_Works.cls, Z_Works.n_numbers, rfl, _, rfl, nb, _, _, cc, rfl, rfl, hnb1, ixAt cc rok.1, ?_⟩
      rw [← List.map_set]
      refine ⟨_, rfl, _, _, _, _, rfl, rfl, SqT.of (by rw [upd_ne ntn]; exact ht), rfl, _, rfl, _, rfl, _, rfl, (by show 4 ≤ sizeLine; decide), fun p hp => ?_⟩
      have sp := same_new (o := HO.tup [V.str (Str.ofString "store"), V.int cc, V.non, V.int (vx z.bs e)]) hp
      have nbh : B.h ≠ nb := ne_of c1.h hnb1 (by intro z; cases z)
      refine k p _ ?_ upd_same (HdC.same ⟨by rw [upd_ne nbh]; exact c1.h, by rw [upd_ne nnb.symm]; exact c1.b, by rw [upd_ne nny.symm]; exact c1.y, c1.nby, c1.bl⟩ sp) (sp _ _ upd_same) ?_
      · refine s1.free ?_
        have : p ≠ nb := fun e => by rw [e, upd_same] at hp; cases hp
        rw [upd_ne this] at hp
        exact hp
      · intro x u e n1 n2
        exact sp _ _ (by rw [upd_ne n1]; exact s1 _ _ e)
    | swap b cc e =>
      obtain ⟨x, rfl, dx'⟩ := ps
      refine ⟨_, rfl, _, _, _, _, rfl, rfl, SqT.of ht, rfl, rfl, _, rfl, ?_⟩
      refine ite2 (fun z => absurd (of_decide_eq_true z) (by decide)) (fun _ => ?_)
      refine ⟨_, rfl, o, C_Works, dx, _, _, rfl, ho1, Z_Works.cls, Z_Works.n_numbers, rfl, _, rfl, _, _, _, _, rfl, rfl, SqL.of hnb1, atI_nat (cellAt cc rok.2.1), ?_⟩
      refine ⟨_, rfl, _, _, _, _, rfl, rfl, SqT.of ht, rfl, rfl, _, rfl, ?_⟩
      refine ite2 (fun z => absurd (of_decide_eq_true z) (by decide)) (fun _ => ?_)
      refine ⟨_, rfl, B.h, B.hx, _, rfl, c1.h, rfl, _, rfl, _, rfl, _, _, _, _, rfl, rfl, SqT.of ht, rfl, B, z, x, e, rfl, c1, dx', rok.2.2, dep2 e, ?_⟩
      refine ⟨_, rfl, rfl, _, rfl, ?_⟩
      refine iteT ?_
      refine ⟨_, rfl, B.h, B.hx, _, rfl, c1.h, rfl, _, rfl, _, _, _, _, rfl, rfl, SqT.of ht, rfl, _, rfl, B, z, b, _, rfl, c1, rok.1, ?_⟩
      refine ⟨_, rfl, rfl, _, rfl, ?_⟩
      refine iteT ?_
      have c2 := c1.setb (z.bs.set b ((ns[cc]?).getD 0)) (by rw [List.length_set]; exact c1.bl)
      have hnb2 : (upd H1 B.b (.lst ((z.bs.set b ((ns[cc]?).getD 0)).map V.int))) nb = some (.lst (ns.map V.int)) := by rw [upd_ne nnb]; exact hnb1
      refine ⟨_, rfl, _, rfl, o, C_Works, dx, _, _, rfl, (by rw [upd_ne noB]; exact ho1), Z_Works.cls, Z_Works.n_numbers, rfl, _, rfl, nb, _, _, cc, rfl, rfl, hnb2, ixAt cc rok.2.1, ?_⟩
      rw [← List.map_set]
      refine ⟨_, rfl, _, _, _, _, rfl, rfl, SqT.of (by rw [upd_ne ntn, upd_ne ntb]; exact ht), rfl, _, rfl, _, rfl, _, rfl, (by show 4 ≤ sizeLine; decide), fun p hp => ?_⟩
      have sp := same_new (o := HO.tup [V.str (Str.ofString "swap"), V.int cc, V.int ((ns[cc]?).getD 0), V.int (vx z.bs e)]) hp
      have nbh : B.h ≠ nb := ne_of c1.h hnb1 (by intro z; cases z)
      refine k p _ ?_ ?_ (HdC.same ⟨by rw [upd_ne nbh]; exact c2.h, by rw [upd_ne nnb.symm]; exact c2.b, by rw [upd_ne nny.symm]; exact c2.y, c2.nby, c2.bl⟩ sp) (sp _ _ upd_same) ?_
      · refine s1.free ?_
        have n1 : p ≠ nb := fun e => by rw [e, upd_same] at hp; cases hp
        rw [upd_ne n1] at hp
        have n2 : p ≠ B.b := fun e => by rw [e, upd_same] at hp; cases hp
        rw [upd_ne n2] at hp
        exact hp
      · rw [upd_same]
        show some (HO.tup [V.str (Str.ofString "swap"), V.int cc, V.int ((ns[cc]?).getD 0), V.int (vx z.bs e)]) = some (HO.tup [V.str (Str.ofString "swap"), V.int cc, oV (ns[cc]?), V.int (vx z.bs e)])
        rw [cellOf cc rok.2.1]
        rfl
      · intro x u e n1 n2
        exact sp _ _ (by rw [upd_ne n1, upd_ne n2]; exact s1 _ _ e)
    | lett b e => cases tr
    | say e => cases tr
    | go n => cases tr
    | unl q e f n => cases tr

/-! a works at the heap -/
structure WAd where
  (o dx pg L nb hl tn : Addr) (rs : List Addr) (hd : List HAd)
structure HdAt (CH : Addr) (i k m : Nat) (τ : Tg) (H : Hp) (A : HAd) (s : HandS) : Prop where
  c : HdC CH H A s
  r : RowsH H A.r m s.rws
  tr : τ A.r = [0]
  th : τ A.h = [i, 4, k]
  tb : τ A.b = [i, 5, k]
  ty : τ A.sy = [i, 6, k]
structure WAt (CW CH : Addr) (i : Nat) (τ : Tg) (H : Hp) (W : WAd) (S : WkS) : Prop where
  un : Unt τ H
  i0 : i ≠ 0
  o : H W.o = some (.ins CW W.dx (wF W.pg W.nb W.hl W.tn))
  pg : H W.pg = some (.tup [.int S.m, .ref W.L])
  L : H W.L = some (.lst (W.rs.map V.ref))
  nb : H W.nb = some (.lst (S.ns.map V.int))
  hl : H W.hl = some (.lst (W.hd.map fun a => .ref a.h))
  tn : H W.tn = some (.lst (S.ts.map V.int))
  to : τ W.o = [i, 0]
  tb : τ W.nb = [i, 1]
  tl : τ W.hl = [i, 2]
  tt : τ W.tn = [i, 3]
  tL : τ W.L = [0]
  rl : W.rs.length = S.hs.length
  rs : ∀ (k : Nat) (r : Addr) (s : HandS), W.rs[k]? = some r → S.hs[k]? = some s → τ r = [0] ∧ RowsH H r S.m s.rws
  len : W.hd.length = S.hs.length
  hd : ∀ (k : Nat) (A : HAd) (s : HandS), W.hd[k]? = some A → S.hs[k]? = some s → HdAt CH i k S.m τ H A s
  ok : ∀ s ∈ S.hs, HOk s
  sl : ∀ s ∈ S.hs, s.sy.length ≤ 60 * (S.ts.length + 1)
  nl : S.ns.length = S.m
  hn : S.hs.length ≤ 100
section
variable {CW CH : Addr} {i : Nat} {τ τ' : Tg} {H H' : Hp} {W : WAd} {S : WkS}
theorem HdAt.mv {k m : Nat} {A : HAd} {s : HandS} (h : HdAt CH i k m τ H A s) (q : Mv i τ H τ' H') : HdAt CH i k m τ' H' A s := by
  obtain ⟨⟨c1, c2, c3, c4, c5⟩, r, tr, th, tb, ty⟩ := h
  have e1 := q.keep _ _ c1 (.inr (by rw [th]; rfl))
  have e2 := q.keep _ _ c2 (.inr (by rw [tb]; rfl))
  have e3 := q.keep _ _ c3 (.inr (by rw [ty]; rfl))
  have rr := r
  obtain ⟨ts, hr, _⟩ := rr
  have e4 := q.keep _ _ hr (.inl tr)
  exact ⟨⟨e1.1, e2.1, e3.1, c4, c5⟩, r.keep (fun o e => (q.keep _ _ e (.inl tr)).1) q.tup, e4.2.trans tr, e1.2.trans th, e2.2.trans tb, e3.2.trans ty⟩
theorem rows_mv {r : Addr} {m : Nat} {rws : List Rw} (h : τ r = [0] ∧ RowsH H r m rws) (q : Mv i τ H τ' H') : τ' r = [0] ∧ RowsH H' r m rws := by
  obtain ⟨t, R⟩ := h
  have rr := R
  obtain ⟨ts, hr, _⟩ := rr
  have e4 := q.keep _ _ hr (.inl t)
  exact ⟨e4.2.trans t, R.keep (fun o e => (q.keep _ _ e (.inl t)).1) q.tup⟩
theorem WAt.mv (w : WAt CW CH i τ H W S) (q : Mv i τ H τ' H') (u : Unt τ' H') : WAt CW CH i τ' H' W S := by
  have e1 := q.keep _ _ w.o (.inr (by rw [w.to]; rfl))
  have e2 := q.keep _ _ w.nb (.inr (by rw [w.tb]; rfl))
  have e3 := q.keep _ _ w.hl (.inr (by rw [w.tl]; rfl))
  have e4 := q.keep _ _ w.tn (.inr (by rw [w.tt]; rfl))
  have e5 := q.keep _ _ w.L (.inl w.tL)
  exact ⟨u, w.i0, e1.1, q.tup _ _ w.pg, e5.1, e2.1, e3.1, e4.1, e1.2.trans w.to, e2.2.trans w.tb, e3.2.trans w.tl, e4.2.trans w.tt, e5.2.trans w.tL, w.rl, fun k r s h1 h2 => rows_mv (w.rs k r s h1 h2) q, w.len, fun k A s h1 h2 => (w.hd k A s h1 h2).mv q, w.ok, w.sl, w.nl, w.hn⟩
theorem WAt.same (w : WAt CW CH i τ H W S) (k : Same H H') : WAt CW CH i τ H' W S := w.mv (Mv.of_same k) (w.un.same k)
theorem WAt.hand {k : Nat} {s : HandS} (w : WAt CW CH i τ H W S) (h : S.hs[k]? = some s) : ∃ A, W.hd[k]? = some A ∧ HdAt CH i k S.m τ H A s := by
  have : k < W.hd.length := by rw [w.len]; exact (List.getElem?_eq_some_iff.mp h).1
  exact ⟨W.hd[k], by simp [this], w.hd k _ _ (by simp [this]) h⟩
end
/-! a hand by its number -/
def spHandOf (CW CH CN : Addr) (K : PySem.W.Frag) : Sp := fun vs H Q E => ∃ (i : Nat) (τ : Tg) (W : WAd) (S : WkS) (h : Int), vs = [.ref W.o, .int h] ∧ WAt CW CH i τ H W S ∧ (∀ (k : Nat) (A : HAd) (s : HandS), h = k → W.hd[k]? = some A → S.hs[k]? = some s → Q (.ref A.h) H) ∧ (¬ inP h S.hs.length → E (.ref CN) none H)
theorem ok_handOf {C_Works C_Hand : Addr} {f : Addr} {fd : FuncData} (F : Fun K "hand_of" "Works.hand_of" s_Works_hand_of f fd) (F_is_below : FnAt P w K mg base 2 "is_below" ["value", "count"] (spBelow K)) (Z_Works : Cl_Works K C_Works) (Bt : Blt mg) {C_NoHand : Addr} (X_NoHand : Xr K mg C_NoHand "NoHand") : FnOk P w K mg base (CX1 P w) 3 f fd ["self", "hand"] (spHandOf C_Works C_Hand C_NoHand K) := by
  refine F.okX sc_Works_hand_of (fun vs H Q E h => ?_) (fun cdv A outer s H vs Q E hr h hR => ?_)
  · obtain ⟨i, τ, W, S, h, rfl, _⟩ := h
    rfl
  · obtain ⟨i, τ, W, S, h, rfl, w, k1, k2⟩ := h
    refine ⟨_, (pss_cons (ps_if (pt_not (pt_val (pe_fn F_is_below (hr.mono (by decide)) (by rfl) (pa_cons (pv 1) (pa_cons (pe_callB (call_len_seqK (K := K) rfl) (by rfl) Bt.b_len bt_len (pa_cons (pe_fldK (K := K) rfl (pv 0) rfl) pa_nil)) pa_nil))))) (pss_one (ps_raise PySem.F.excBase_ValueError X_NoHand.ex X_NoHand.bd (by rfl) rfl rfl hR (pa_cons pe_str pa_nil))) pss_nil)
      (pss_one (ps_ret (pe_ix (ix_listK (K := K) rfl) (pe_fldK (K := K) rfl (pv 0) rfl) (pv 1) (fun _ _ => rfl))))), ?_⟩
    refine ⟨_, rfl, _, rfl, W.o, C_Works, W.dx, _, _, rfl, w.o, Z_Works.cls, Z_Works.n_hands, rfl, W.hl, _, rfl, .inl (SqL.of w.hl), h, _, rfl, _, rfl, ?_⟩
    have ll : (W.hd.map fun a => V.ref a.h).length = S.hs.length := by rw [List.length_map, w.len]
    by_cases hh : inP h (W.hd.map fun a => V.ref a.h).length
    · rw [decide_eq_true hh]
      refine iteF ?_
      obtain ⟨n, rfl⟩ := Int.eq_ofNat_of_zero_le hh.1
      have nl : n < S.hs.length := by have := hh.2; rw [ll] at this; omega
      have es : S.hs[n]? = some S.hs[n] := by simp [nl]
      obtain ⟨A, eA, _⟩ := w.hand es
      exact ⟨_, rfl, W.o, C_Works, W.dx, _, _, rfl, w.o, Z_Works.cls, Z_Works.n_hands, rfl, _, rfl, _, _, _, _, rfl, rfl, SqL.of w.hl, atI_nat (by rw [List.getElem?_map, eA]; rfl), k1 n A _ rfl eA es⟩
    · rw [decide_eq_false hh]
      refine iteT ?_
      rw [ll] at hh
      exact ⟨(by show 1 ≤ sizeLine; decide), k2 hh⟩

/-! what a works tells -/
def spTold (f : HandS → List Int) (CW CH CN : Addr) (K : PySem.W.Frag) : Sp := fun vs H Q E => ∃ (i : Nat) (τ : Tg) (W : WAd) (S : WkS) (h : Int), vs = [.ref W.o, .int h] ∧ WAt CW CH i τ H W S ∧
  (∀ (k : Nat) (s : HandS) (l : Addr) (H' : Hp), h = k → S.hs[k]? = some s → H l = none → H' l = some (.lst ((f s).map V.int)) → Same H H' → Q (.ref l) H') ∧ (¬ inP h S.hs.length → E (.ref CN) none H)

theorem ok_boxes {C_Works C_Hand C_NoHand : Addr} {f : Addr} {fd : FuncData} (F : Fun K "boxes" "Works.boxes" s_Works_boxes f fd) (M_Works_hand_of : MethAtX P w K mg base 3 C_Works "hand_of" ["self", "hand"] (spHandOf C_Works C_Hand C_NoHand K)) (Z_Works : Cl_Works K C_Works) (Z_Hand : Cl_Hand K C_Hand) (Bt : Blt mg) : FnOk P w K mg base (CX1 P w) 4 f fd ["self", "hand"] (spTold HandS.bs C_Works C_Hand C_NoHand K) := by
  refine F.okX sc_Works_boxes (fun vs H Q E h => ?_) (fun cdv A outer s H vs Q E hr h hR => ?_)
  · obtain ⟨i, τ, W, S, h, rfl, _⟩ := h
    rfl
  · obtain ⟨i, τ, W, S, h, rfl, w, k1, k2⟩ := h
    refine ⟨_, (pss_one (ps_ret (pe_callTy (call_list_ofK (K := K) rfl) (by rfl) Bt.b_list bt_list (pa_cons (pe_fldK (K := K) rfl (pe_methX M_Works_hand_of Z_Works.cls rfl hR (hr.mono (by decide)) (pv 0) (pa_cons (pv 1) pa_nil)) rfl) pa_nil)))), ?_⟩
    refine ⟨_, rfl, W.o, W.dx, _, rfl, w.o, rfl, _, rfl, i, τ, W, S, h, rfl, w, fun k A s e eA es => ?_, k2⟩
    have a := w.hd k A s eA es
    exact ⟨A.h, C_Hand, A.hx, _, _, rfl, a.c.h, Z_Hand.cls, Z_Hand.n_in_boxes, rfl, A.b, _, rfl, .inl (SqL.of a.c.b), fun l hl => k1 k s l _ e es hl upd_same (same_new hl)⟩

theorem ok_said {C_Works C_Hand C_NoHand : Addr} {f : Addr} {fd : FuncData} (F : Fun K "said" "Works.said" s_Works_said f fd) (M_Works_hand_of : MethAtX P w K mg base 3 C_Works "hand_of" ["self", "hand"] (spHandOf C_Works C_Hand C_NoHand K)) (Z_Works : Cl_Works K C_Works) (Z_Hand : Cl_Hand K C_Hand) (Bt : Blt mg) : FnOk P w K mg base (CX1 P w) 4 f fd ["self", "hand"] (spTold HandS.sy C_Works C_Hand C_NoHand K) := by
  refine F.okX sc_Works_said (fun vs H Q E h => ?_) (fun cdv A outer s H vs Q E hr h hR => ?_)
  · obtain ⟨i, τ, W, S, h, rfl, _⟩ := h
    rfl
  · obtain ⟨i, τ, W, S, h, rfl, w, k1, k2⟩ := h
    refine ⟨_, (pss_one (ps_ret (pe_callTy (call_list_ofK (K := K) rfl) (by rfl) Bt.b_list bt_list (pa_cons (pe_fldK (K := K) rfl (pe_methX M_Works_hand_of Z_Works.cls rfl hR (hr.mono (by decide)) (pv 0) (pa_cons (pv 1) pa_nil)) rfl) pa_nil)))), ?_⟩
    refine ⟨_, rfl, W.o, W.dx, _, rfl, w.o, rfl, _, rfl, i, τ, W, S, h, rfl, w, fun k A s e eA es => ?_, k2⟩
    have a := w.hd k A s eA es
    exact ⟨A.h, C_Hand, A.hx, _, _, rfl, a.c.h, Z_Hand.cls, Z_Hand.n_sayings, rfl, A.sy, _, rfl, .inl (SqL.of a.c.y), fun l hl => k1 k s l _ e es hl upd_same (same_new hl)⟩

def spHow (CW CH CN : Addr) (K : PySem.W.Frag) : Sp := fun vs H Q E => ∃ (i : Nat) (τ : Tg) (W : WAd) (S : WkS) (h : Int), vs = [.ref W.o, .int h] ∧ WAt CW CH i τ H W S ∧ (∀ (k : Nat) (s : HandS), h = k → S.hs[k]? = some s → Q (.str s.st) H) ∧ (¬ inP h S.hs.length → E (.ref CN) none H)
theorem ok_how {C_Works C_Hand C_NoHand : Addr} {f : Addr} {fd : FuncData} (F : Fun K "how" "Works.how" s_Works_how f fd) (M_Works_hand_of : MethAtX P w K mg base 3 C_Works "hand_of" ["self", "hand"] (spHandOf C_Works C_Hand C_NoHand K)) (Z_Works : Cl_Works K C_Works) (Z_Hand : Cl_Hand K C_Hand) : FnOk P w K mg base (CX1 P w) 4 f fd ["self", "hand"] (spHow C_Works C_Hand C_NoHand K) := by
  refine F.okX sc_Works_how (fun vs H Q E h => ?_) (fun cdv A outer s H vs Q E hr h hR => ?_)
  · obtain ⟨i, τ, W, S, h, rfl, _⟩ := h
    rfl
  · obtain ⟨i, τ, W, S, h, rfl, w, k1, k2⟩ := h
    refine ⟨_, (pss_one (ps_ret (pe_fldK (K := K) rfl (pe_methX M_Works_hand_of Z_Works.cls rfl hR (hr.mono (by decide)) (pv 0) (pa_cons (pv 1) pa_nil)) rfl))), ?_⟩
    refine ⟨_, rfl, W.o, W.dx, _, rfl, w.o, rfl, _, rfl, i, τ, W, S, h, rfl, w, fun k A s e eA es => ?_, k2⟩
    have a := w.hd k A s eA es
    exact ⟨A.h, C_Hand, A.hx, _, _, rfl, a.c.h, Z_Hand.cls, Z_Hand.n_state, rfl, k1 k s e es⟩

/-! what is tagged otherwise stays -/
structure MvT (C : List (List Nat)) (τ : Tg) (H : Hp) (τ' : Tg) (H' : Hp) : Prop where
  keep : ∀ x u, H x = some u → τ x ∉ C → H' x = some u ∧ τ' x = τ x
  tup : ∀ x xs, H x = some (.tup xs) → H' x = some (.tup xs)
theorem MvT.of_same {C : List (List Nat)} {τ : Tg} {H H' : Hp} (k : Same H H') : MvT C τ H τ H' := ⟨fun x u e _ => ⟨k _ _ e, rfl⟩, k.tups⟩
theorem MvT.claim {C : List (List Nat)} {τ : Tg} {H H' : Hp} {p : Addr} {t : List Nat} (k : Same H H') (hp : H p = none) : MvT C τ H (tgSet τ p t) H' := ⟨fun x u e _ => ⟨k _ _ e, tgSet_ne (ne_of_none e hp)⟩, k.tups⟩
theorem MvT.set {C : List (List Nat)} {τ : Tg} {H : Hp} {x : Addr} {o u : HO} (ht : τ x ∈ C) (hx : H x = some o) (hn : ∀ xs, o ≠ .tup xs) : MvT C τ H τ (upd H x u) :=
  ⟨fun y v e n => ⟨by rw [upd_ne (fun z : y = x => n (by rw [z]; exact ht))]; exact e, rfl⟩, fun y xs e => by rw [upd_ne (ne_of e hx fun z => hn xs z.symm)]; exact e⟩
theorem MvT.trans {C : List (List Nat)} {τ τ1 τ2 : Tg} {H H1 H2 : Hp} (a : MvT C τ H τ1 H1) (b : MvT C τ1 H1 τ2 H2) : MvT C τ H τ2 H2 := ⟨fun x u e n => by
  obtain ⟨e1, t1⟩ := a.keep x u e n
  obtain ⟨e2, t2⟩ := b.keep x u e1 (by rw [t1]; exact n)
  exact ⟨e2, by rw [t2, t1]⟩, fun x xs e => b.tup _ _ (a.tup _ _ e)⟩
theorem HdAt.mvT {C : List (List Nat)} {CH : Addr} {i k m : Nat} {τ τ' : Tg} {H H' : Hp} {A : HAd} {s : HandS} (h : HdAt CH i k m τ H A s) (q : MvT C τ H τ' H') (h0 : [0] ∉ C) (h4 : [i, 4, k] ∉ C) (h5 : [i, 5, k] ∉ C) (h6 : [i, 6, k] ∉ C) : HdAt CH i k m τ' H' A s := by
  obtain ⟨⟨c1, c2, c3, c4, c5⟩, r, tr, th, tb, ty⟩ := h
  have e1 := q.keep _ _ c1 (by rw [th]; exact h4)
  have e2 := q.keep _ _ c2 (by rw [tb]; exact h5)
  have e3 := q.keep _ _ c3 (by rw [ty]; exact h6)
  have rr := r
  obtain ⟨ts, hr, _⟩ := rr
  have e4 := q.keep _ _ hr (by rw [tr]; exact h0)
  exact ⟨⟨e1.1, e2.1, e3.1, c4, c5⟩, r.keep (fun o e => (q.keep _ _ e (by rw [tr]; exact h0)).1) q.tup, e4.2.trans tr, e1.2.trans th, e2.2.trans tb, e3.2.trans ty⟩
theorem rows_mvT {C : List (List Nat)} {τ τ' : Tg} {H H' : Hp} {r : Addr} {m : Nat} {rws : List Rw} (h : τ r = [0] ∧ RowsH H r m rws) (q : MvT C τ H τ' H') (h0 : [0] ∉ C) : τ' r = [0] ∧ RowsH H' r m rws := by
  obtain ⟨t, R⟩ := h
  have rr := R
  obtain ⟨ts, hr, _⟩ := rr
  have e4 := q.keep _ _ hr (by rw [t]; exact h0)
  exact ⟨e4.2.trans t, R.keep (fun o e => (q.keep _ _ e (by rw [t]; exact h0)).1) q.tup⟩
/-! a turn -/
def spTurn (CW CH CN CO : Addr) (K : PySem.W.Frag) : Sp := fun vs H Q E => ∃ (i : Nat) (τ : Tg) (W : WAd) (S : WkS) (h : Int), vs = [.ref W.o, .int h] ∧ WAt CW CH i τ H W S ∧ S.ts.length ≤ 10000 ∧
  (∀ (k : Nat) (s : HandS) (r : Rw) (t : Addr) (H' : Hp), h = k → S.hs[k]? = some s → s.st = "waits" → s.rws[s.pos]? = some r → touch r = true → H t = none → H' t = some (.tup (touchV S.ns s.bs r)) → WAt CW CH i τ H' W (turnS S k) → Stp i τ H H' → Q (.ref t) H') ∧
  (¬ inP h S.hs.length → E (.ref CN) none H) ∧ (∀ (k : Nat) (s : HandS), h = k → S.hs[k]? = some s → s.st ≠ "waits" → E (.ref CO) none H)
theorem turnS_eq {S : WkS} {k : Nat} {s : HandS} {r : Rw} (es : S.hs[k]? = some s) (er : s.rws[s.pos]? = some r) : turnS S k = { S with ns := cellsR S.ns s.bs r, hs := S.hs.set k (goneS S.ns s r), ts := S.ts ++ [(k : Int)] } := by
  unfold turnS
  simp only [es, er]
theorem cellsR_len (ns bs : List Int) (r : Rw) : (cellsR ns bs r).length = ns.length := by cases r <;> simp [cellsR]
theorem WAt.turned {CW CH : Addr} {i : Nat} {τ : Tg} {H H' : Hp} {W : WAd} {S : WkS} {k : Nat} {A : HAd} {s : HandS} {r : Rw} (w : WAt CW CH i τ H W S) (eA : W.hd[k]? = some A) (es : S.hs[k]? = some s) (er : s.rws[s.pos]? = some r)
    (kp : ∀ x u, H x = some u → x ≠ W.nb → x ≠ A.b → x ≠ A.h → x ≠ A.sy → x ≠ W.tn → H' x = some u) (c : HdC CH H' A (goneS S.ns s r)) (hnb : H' W.nb = some (.lst ((cellsR S.ns s.bs r).map V.int))) (htn : H' W.tn = some (.lst ((S.ts ++ [(k : Int)]).map V.int))) : WAt CW CH i τ H' W (turnS S k) ∧ Stp i τ H H' := by
  have a := w.hd k A s eA es
  have tup : ∀ x xs, H x = some (.tup xs) → H' x = some (.tup xs) := fun x xs e => kp _ _ e (ne_of e w.nb (by intro z; cases z)) (ne_of e a.c.b (by intro z; cases z)) (ne_of e a.c.h (by intro z; cases z)) (ne_of e a.c.y (by intro z; cases z)) (ne_of e w.tn (by intro z; cases z))
  have st : Stp i τ H H' := by
    refine ⟨fun x u e n => ?_, tup, fun x e => ?_⟩
    · have ne : ∀ (y : Addr) (t : List Nat), τ y = i :: t → x ≠ y := fun y t ty z => n (by rw [z, ty]; rfl)
      exact kp _ _ e (ne _ _ w.tb) (ne _ _ a.tb) (ne _ _ a.th) (ne _ _ a.ty) (ne _ _ w.tt)
    · cases q : H x with
      | none => rfl
      | some u =>
        have no : ∀ y o, H' y = some o → x ≠ y := fun y o h z => by rw [z, h] at e; cases e
        rw [kp _ _ q (no _ _ hnb) (no _ _ c.b) (no _ _ c.h) (no _ _ c.y) (no _ _ htn)] at e
        cases e
  refine ⟨?_, st⟩
  have q : MvT [[i, 1], [i, 5, k], [i, 4, k], [i, 6, k], [i, 3]] τ H τ H' := by
    refine ⟨fun x u e n => ⟨?_, rfl⟩, tup⟩
    have ne : ∀ (y : Addr) (t : List Nat), τ y = t → t ∈ [[i, 1], [i, 5, k], [i, 4, k], [i, 6, k], [i, 3]] → x ≠ y := fun y t ty ht z => n (by rw [z, ty]; exact ht)
    exact kp _ _ e (ne _ _ w.tb (by simp)) (ne _ _ a.tb (by simp)) (ne _ _ a.th (by simp)) (ne _ _ a.ty (by simp)) (ne _ _ w.tt (by simp))
  have i0 := w.i0
  have z0 : [0] ∉ [[i, 1], [i, 5, k], [i, 4, k], [i, 6, k], [i, 3]] := by simp
  rw [turnS_eq es er]
  have hk : k < S.hs.length := (List.getElem?_eq_some_iff.mp es).1
  have get : ∀ (j : Nat) (s' : HandS), (S.hs.set k (goneS S.ns s r))[j]? = some s' → (j = k ∧ s' = goneS S.ns s r) ∨ (j ≠ k ∧ S.hs[j]? = some s') := fun j s' e => by
    rw [List.getElem?_set] at e
    by_cases z : k = j
    · subst z
      simp [hk] at e
      exact .inl ⟨rfl, e.symm⟩
    · rw [if_neg z] at e
      exact .inr ⟨fun y => z y.symm, e⟩
  have gr : (goneS S.ns s r).rws = s.rws := led_rws _ _
  have mem : ∀ s' ∈ S.hs.set k (goneS S.ns s r), s' = goneS S.ns s r ∨ s' ∈ S.hs := fun s' m => (List.mem_or_eq_of_mem_set m).symm
  refine ⟨st.un w.un, i0, (q.keep _ _ w.o (by rw [w.to]; simp)).1, tup _ _ w.pg, (q.keep _ _ w.L (by rw [w.tL]; exact z0)).1, hnb, (q.keep _ _ w.hl (by rw [w.tl]; simp)).1, htn, w.to, w.tb, w.tl, w.tt, w.tL, ?_, ?_, ?_, ?_, ?_, ?_, ?_, ?_⟩
  · simp [w.rl]
  · intro j r' s' h1 h2
    rcases get j s' h2 with ⟨rfl, rfl⟩ | ⟨_, h2⟩
    · rw [gr]
      exact rows_mvT (w.rs j r' s h1 es) q z0
    · exact rows_mvT (w.rs j r' s' h1 h2) q z0
  · simp [w.len]
  · intro j A' s' h1 h2
    rcases get j s' h2 with ⟨rfl, rfl⟩ | ⟨nj, h2⟩
    · rw [eA] at h1
      cases h1
      refine ⟨c, ?_, a.tr, a.th, a.tb, a.ty⟩
      rw [gr]
      exact (rows_mvT ⟨a.tr, a.r⟩ q z0).2
    · exact (w.hd j A' s' h1 h2).mvT q z0 (by simp [nj]) (by simp [nj]) (by simp [nj])
  · intro s' m
    rcases mem s' m with rfl | m
    · exact led_ok _ _
    · exact w.ok s' m
  · intro s' m
    simp only [List.length_append, List.length_singleton]
    rcases mem s' m with rfl | m
    · have := led_sy 60 { s with pos := s.pos + 1, bs := boxesR S.ns s.bs r }
      have := w.sl s (List.mem_of_getElem? es)
      show (led 60 _).sy.length ≤ _
      simp only at *
      omega
    · have := w.sl s' m
      omega
  · show (cellsR S.ns s.bs r).length = S.m
    rw [cellsR_len, w.nl]
  · simp [w.hn]
theorem ok_turn {C_Works C_Hand C_NoHand C_Over : Addr} {f : Addr} {fd : FuncData} (F : Fun K "turn" "Works.turn" s_Works_turn f fd) (M_Works_hand_of : MethAtX P w K mg base 3 C_Works "hand_of" ["self", "hand"] (spHandOf C_Works C_Hand C_NoHand K)) (M_Works_touch_by : MethAt P w K mg base 4 C_Works "touch_by" ["self", "one"] (spTouchBy C_Works C_Hand K)) (M_Hand_lead_on : MethAt P w K mg base 6 C_Hand "lead_on" ["self"] (spLead C_Hand K)) (Z_Works : Cl_Works K C_Works) (Z_Hand : Cl_Hand K C_Hand) (X_Over : Xr K mg C_Over "Over") : FnOk P w K mg base (CX1 P w) 7 f fd ["self", "hand"] (spTurn C_Works C_Hand C_NoHand C_Over K) := by
  refine F.okX sc_Works_turn (fun vs H Q E h => ?_) (fun cdv A outer s H vs Q E hr h hR => ?_)
  · obtain ⟨i, τ, W, S, h, rfl, _⟩ := h
    rfl
  · obtain ⟨i, τ, W, S, h, rfl, w, tl, k1, k2, k3⟩ := h
    refine ⟨_, (pss_cons (ps_set (i := 2) sc_Works_turn.nd rfl (Or.inl rfl) (pe_methX M_Works_hand_of Z_Works.cls rfl hR (hr.mono (by decide)) (pv 0) (pa_cons (pv 1) pa_nil)))
      (pss_cons (ps_if (pt_cmpR op_ne (pe_fldK (K := K) rfl (pv 2) rfl) pe_str (nomark _)) (pss_one (ps_raise PySem.F.excBase_ValueError X_Over.ex X_Over.bd (by rfl) rfl rfl hR (pa_cons pe_str pa_nil))) pss_nil)
      (pss_cons (ps_set (i := 3) sc_Works_turn.nd rfl (Or.inl rfl) (pe_methA M_Works_touch_by Z_Works.cls (hr.mono (by decide)) (pv 0) (pa_cons (pv 2) pa_nil)))
      (pss_cons (ps_fldaugK (K := K) rfl (pv 2) pe_int ip_add)
      (pss_cons (ps_expr (pe_methA0 M_Hand_lead_on Z_Hand.cls (hr.mono (by decide)) (pv 2)))
      (pss_cons (ps_expr (pe_appendK (K := K) rfl (pe_fldK (K := K) rfl (pv 0) rfl) (pa_cons (pv 1) pa_nil)))
      (pss_one (ps_ret (pv 3))))))))), ?_⟩
    refine ⟨_, rfl, W.o, W.dx, _, rfl, w.o, rfl, _, rfl, i, τ, W, S, h, rfl, w, fun k A s e eA es => ?_, k2⟩
    have a := w.hd k A s eA es
    refine ⟨_, rfl, A.h, C_Hand, A.hx, _, _, rfl, a.c.h, Z_Hand.cls, Z_Hand.n_state, rfl, rfl, _, rfl, ?_⟩
    by_cases wt : s.st = "waits"
    rotate_left
    · refine ite2 (fun _ => ?_) (fun z => absurd (by simp [wt]) z)
      exact ⟨(by show 1 ≤ sizeLine; decide), k3 k s e es wt⟩
    refine iteNS (by rw [wt]) ?_
    obtain ⟨r, er, tr⟩ := w.ok s (List.mem_of_getElem? es) wt
    have nnb : W.nb ≠ A.b := ne_tag w.tb a.tb (by simp)
    have nny : W.nb ≠ A.sy := ne_tag w.tb a.ty (by simp)
    refine ⟨_, rfl, W.o, W.dx, _, rfl, w.o, rfl, _, rfl, W.o, W.dx, W.pg, W.nb, W.hl, W.tn, A, s, S.m, S.ns, r, rfl, w.o, w.nb, w.nl, a.c, a.r, er, tr, nnb, nny, fun t H1 tf t1 c1 nb1 p1 => ?_⟩
    refine ⟨_, rfl, A.h, C_Hand, A.hx, _, _, rfl, c1.h, Z_Hand.cls, Z_Hand.n_at, rfl, _, _, rfl, rfl, A.hx, _, c1.h, (by show 5 < 1000; decide), ?_⟩
    rw [put_at]
    have c2 := c1.seth (s.pos + 1) s.st
    have p2 : KH A H1 (upd H1 A.h (.ins C_Hand A.hx (hF A.r ((s.pos + 1 : Nat) : Int) A.b A.sy s.st))) := KH.seth
    have t2 := c1.tup p2 _ _ t1
    dsimp only
    rw [show ((s.pos : Nat) : Int) + 1 = ((s.pos + 1 : Nat) : Int) by omega]
    generalize (upd H1 A.h (.ins C_Hand A.hx (hF A.r ((s.pos + 1 : Nat) : Int) A.b A.sy s.st))) = H2 at c2 p2 t2 ⊢
    have nrb : A.r ≠ A.b := ne_tag a.tr a.tb (by intro z; cases z)
    have nry : A.r ≠ A.sy := ne_tag a.tr a.ty (by intro z; cases z)
    have nrh : A.r ≠ A.h := ne_tag a.tr a.th (by intro z; cases z)
    have nrn : A.r ≠ W.nb := ne_tag a.tr w.tb (by intro z; cases z)
    have tup2 : ∀ x xs, H x = some (.tup xs) → H2 x = some (.tup xs) := fun x xs q => c1.tup p2 _ _ (p1 _ _ q (ne_of q w.nb (by intro z; cases z)) (ne_of q a.c.b (by intro z; cases z)))
    have R2 : RowsH H2 A.r S.m s.rws := a.r.keep (fun o q => p2 _ _ (p1 _ _ q nrn nrb) nrh nrb nry) tup2
    have sl := w.sl s (List.mem_of_getElem? es)
    refine ⟨_, rfl, A.h, A.hx, _, rfl, c2.h, rfl, A, _, S.m, rfl, c2, R2, nrb, nry, by show s.sy.length < _; omega, fun H3 c3 p3 => ?_⟩
    have k13 : ∀ x u, H x = some u → x ≠ W.nb → x ≠ A.b → x ≠ A.h → x ≠ A.sy → H3 x = some u := fun x u q n1 n2 n3 n4 => p3 _ _ (p2 _ _ (p1 _ _ q n1 n2) n3 n2 n4) n3 n2 n4
    have o3 := k13 _ _ w.o (ne_tag w.to w.tb (by simp)) (ne_tag w.to a.tb (by simp)) (ne_tag w.to a.th (by simp)) (ne_tag w.to a.ty (by simp))
    have tn3 := k13 _ _ w.tn (ne_tag w.tt w.tb (by simp)) (ne_tag w.tt a.tb (by simp)) (ne_tag w.tt a.th (by simp)) (ne_tag w.tt a.ty (by simp))
    have nb3 := p3 _ _ (p2 _ _ nb1 (ne_tag w.tb a.th (by simp)) nnb nny) (ne_tag w.tb a.th (by simp)) nnb nny
    have t3 := c2.tup p3 _ _ t2
    refine ⟨_, rfl, W.o, C_Works, W.dx, _, _, rfl, o3, Z_Works.cls, Z_Works.n_turns, rfl, .inl ⟨rfl, _, SqL.of tn3⟩, _, rfl, _, _, _, rfl, rfl, tn3, (by rw [List.length_map, sizeLine_eq]; omega), ?_⟩
    have k14 : ∀ x u, H x = some u → x ≠ W.nb → x ≠ A.b → x ≠ A.h → x ≠ A.sy → x ≠ W.tn → (upd H3 W.tn (.lst (S.ts.map V.int ++ [V.int h]))) x = some u := fun x u q n1 n2 n3 n4 n5 => by rw [upd_ne n5]; exact k13 x u q n1 n2 n3 n4
    have nbt : W.nb ≠ W.tn := ne_tag w.tb w.tt (by simp)
    have c4 : HdC C_Hand (upd H3 W.tn (.lst (S.ts.map V.int ++ [V.int h]))) A (goneS S.ns s r) := ⟨by rw [upd_ne (ne_tag a.th w.tt (by simp))]; exact c3.h, by rw [upd_ne (ne_tag a.tb w.tt (by simp))]; exact c3.b, by rw [upd_ne (ne_tag a.ty w.tt (by simp))]; exact c3.y, c3.nby, c3.bl⟩
    obtain ⟨w4, st⟩ := w.turned (H' := upd H3 W.tn (.lst (S.ts.map V.int ++ [V.int h]))) eA es er k14 c4 (by rw [upd_ne nbt]; exact nb3) (by rw [upd_same, List.map_append, e]; rfl)
    refine ⟨_, rfl, k1 k s r t _ e es wt er tr tf ?_ w4 st⟩
    rw [upd_ne (ne_of t3 tn3 (by intro z; cases z))]
    exact t3

/-! a works made -/
/-- while a works is made: what was there stays -/
structure Bs (H0 : Hp) (τ0 : Tg) (o : Addr) (τ : Tg) (H : Hp) : Prop where
  un : Unt τ H
  kp : Kp o H0 H
  tg : ∀ x u, H0 x = some u → x ≠ o → τ x = τ0 x
theorem Bs.same {H0 H H' : Hp} {τ0 τ : Tg} {o : Addr} (b : Bs H0 τ0 o τ H) (k : Same H H') : Bs H0 τ0 o τ H' := ⟨b.un.same k, b.kp.trans (Kp.of_same k), b.tg⟩
theorem Bs.claim {H0 H H' : Hp} {τ0 τ : Tg} {o p : Addr} {t : List Nat} (b : Bs H0 τ0 o τ H) (k : Same H H') (hp : H p = none) (hp' : ∃ u, H' p = some u) : Bs H0 τ0 o (tgSet τ p t) H' :=
  ⟨b.un.claim k hp', b.kp.trans (Kp.of_same k), fun x u e n => by rw [tgSet_ne (ne_of_none (b.kp _ _ e n) hp)]; exact b.tg x u e n⟩
theorem Bs.set {H0 H : Hp} {τ0 τ : Tg} {o x : Addr} {v : HO} (b : Bs H0 τ0 o τ H) (hx : x = o ∨ H0 x = none) : Bs H0 τ0 o τ (upd H x v) :=
  ⟨b.un.dom (fun y e => by
    by_cases z : y = x
    · rw [z, upd_same] at e; cases e
    · rw [upd_ne z] at e; exact e), fun y u e n => by
    have z : y ≠ x := by
      rcases hx with rfl | hx
      · exact n
      · exact ne_of_none e hx
    rw [upd_ne z]; exact b.kp _ _ e n, b.tg⟩
theorem Bs.fresh {H0 H : Hp} {τ0 τ : Tg} {o p : Addr} (b : Bs H0 τ0 o τ H) (hp : H p = none) (n : p ≠ o) : H0 p = none := kp_none b.kp n hp
def spWInit (CW CH CN : Addr) (K : PySem.W.Frag) : Sp := fun vs H Q E => ∃ (i : Nat) (τ : Tg) (o dx p L0 : Addr) (rs0 : List Addr) (m : Nat) (cv : V) (ns : List Int) (rws : List (List Rw)), vs = [.ref o, .ref p, cv] ∧ H o = some (.ins CW dx []) ∧ H p = some (.tup [.int m, .ref L0]) ∧ H L0 = some (.lst (rs0.map V.ref)) ∧ rs0.length = rws.length ∧
  (∀ (k : Nat) (r : Addr) (x : List Rw), rs0[k]? = some r → rws[k]? = some x → RowsH H r m x) ∧ rws.length ≤ 100 ∧ m ≤ 100 ∧ Unt τ H ∧ i ≠ 0 ∧ ns.length ≤ 100 ∧ ((cv = .non ∧ ns = List.replicate m 0) ∨ ∃ cl, cv = .ref cl ∧ H cl = some (.lst (ns.map V.int))) ∧
  (numOkL m ns → ∀ (τ' : Tg) (W : WAd) (H' : Hp), W.o = o → WAt CW CH i τ' H' W (begS m ns rws) → (∀ x u, H x = some u → x ≠ o → τ' x = τ x) → Kp o H H' → Q .non H') ∧ (¬ numOkL m ns → ∀ H', Kp o H H' → E (.ref CN) none H')
theorem get_snoc {α : Type} {l : List α} {x y : α} {k : Nat} (h : (l ++ [x])[k]? = some y) : l[k]? = some y ∨ (k = l.length ∧ y = x) := by
  by_cases e : k < l.length
  · rw [List.getElem?_append_left e] at h
    exact .inl h
  · rw [List.getElem?_append_right (by omega)] at h
    have lt := (List.getElem?_eq_some_iff.mp h).1
    simp at lt
    have : k = l.length := by omega
    subst this
    simp at h
    exact .inr ⟨rfl, h.symm⟩
theorem ok_winit {C_Works C_Hand : Addr} {f : Addr} {fd : FuncData} (F : FunD K "__init__" "Works.__init__" s_Works_init [.none] f fd) (Z_Works : Cl_Works K C_Works) (Z_Hand : Cl_Hand K C_Hand) {C_NoNumber : Addr} (F_check_numbers : FnAtX P w K mg base 3 "check_numbers" ["cells", "count"] (spCheckNum C_NoNumber K)) (N_Hand : MakeAt P w K mg base 1 C_Hand "Hand" ["self", "rows"] [] (spHInit C_Hand K)) (M_Hand_lead_on : MethAt P w K mg base 6 C_Hand "lead_on" ["self"] (spLead C_Hand K)) (Bt : Blt mg) : FnOk P w K mg base (CX1 P w) 7 f fd ["self", "program", "cells"] (spWInit C_Works C_Hand C_NoNumber K) := by
  refine F.okX sc_Works_init (fun vs H Q E h => ?_) (fun cdv A outer s H vs Q E hr h hR => ?_)
  · obtain ⟨i, τ, o, dx, p, L0, rs0, m, cv, ns, rws, rfl, _⟩ := h
    rfl
  · obtain ⟨i, τ, o, dx, p, L0, rs0, m, cv, ns, rws, rfl, ho, hp, hL, lr, hrows, rl, ml, un, i0, nl, hcv, k1, k2⟩ := h
    refine ⟨_, (pss_cons (ps_if (pt_cmpR op_isN (pv 2) pe_non (nomark _)) (pss_one (ps_setC (i := 2) rfl sc_Works_init.nd rfl (Or.inl rfl) (N := ["cell"]) (own := ["cell"]) (caps := []) (CompScope.of (by kernel_rfl)) (pi_range1 (by rfl) Bt.b_range (pa_cons (pe_ix (ix_tupK (K := K) rfl) (pv 1) pe_int (fun _ _ => rfl)) pa_nil)) (fun _ _ _ _ => (pg_name (i := 0) (show List.Nodup (["cell"] : List Str) by decide +kernel) rfl (Or.inl rfl))) (fun _ _ _ _ => pts_nil) (fun _ _ _ _ => pe_int))) pss_nil)
      (pss_cons (ps_expr (pe_fnX F_check_numbers rfl hR (hr.mono (by decide)) (by rfl) (pa_cons (pv 2) (pa_cons (pe_ix (ix_tupK (K := K) rfl) (pv 1) pe_int (fun _ _ => rfl)) pa_nil))))
      (pss_cons (ps_fldK (K := K) rfl (pv 0) (pe_tup (pa_cons (pe_ix (ix_tupK (K := K) rfl) (pv 1) pe_int (fun _ _ => rfl)) (pa_cons (pe_comp rfl (N := ["rows"]) (own := ["rows"]) (caps := []) (CompScope.of (by kernel_rfl)) (pi_listK (K := K) rfl (pe_ix (ix_tupK (K := K) rfl) (pv 1) pe_int (fun _ _ => rfl))) (fun _ _ _ _ => (pg_name (i := 0) (show List.Nodup (["rows"] : List Str) by decide +kernel) rfl (Or.inl rfl))) (fun _ _ _ _ => pts_nil) (fun _ _ _ _ => (pe_callTy (call_list_ofK (K := K) rfl) (by rfl) Bt.b_list bt_list (pa_cons (pv 0) pa_nil)))) pa_nil))) rfl)
      (pss_cons (ps_fldK (K := K) rfl (pv 0) (pe_callTy (call_list_ofK (K := K) rfl) (by rfl) Bt.b_list bt_list (pa_cons (pv 2) pa_nil)) rfl)
      (pss_cons (ps_fldK (K := K) rfl (pv 0) (pe_comp rfl (N := ["rows"]) (own := ["rows"]) (caps := []) (CompScope.of (by kernel_rfl)) (pi_listK (K := K) rfl (pe_ix (ix_tupK (K := K) rfl) (pe_fldK (K := K) rfl (pv 0) rfl) pe_int (fun _ _ => rfl))) (fun _ _ _ _ => (pg_name (i := 0) (show List.Nodup (["rows"] : List Str) by decide +kernel) rfl (Or.inl rfl))) (fun _ _ _ _ => pts_nil) (fun _ _ _ _ => (pe_makeA N_Hand (hr.mono (by decide)) (by rfl) (pa_cons (pv 0) pa_nil)))) rfl)
      (pss_cons (ps_fldK (K := K) rfl (pv 0) (pe_lst pa_nil) rfl)
      (pss_one (ps_for PassesOwn.leaving rfl (pi_listK (K := K) rfl (pe_fldK (K := K) rfl (pv 0) rfl)) (pg_name (i := 3) sc_Works_init.nd rfl (Or.inl rfl))
      (pss_one (ps_expr (pe_methA0 M_Hand_lead_on Z_Hand.cls (hr.mono (by decide)) (pv 3)))))))))))), ?_⟩
    refine seq_cps (fun σ H1 => ∃ cl : Addr, σ = [some (.ref o), some (.ref p), some (.ref cl), none] ∧ H1 cl = some (.lst (ns.map V.int)) ∧ Same H H1) (fun D' hD' rt' => ?_) ?_
    · refine ⟨_, rfl, rfl, _, rfl, ?_⟩
      rcases hcv with ⟨rfl, rfl⟩ | ⟨cl, rfl, hcl⟩
      · refine iteT ?_
        refine ⟨_, rfl, _, _, _, _, rfl, rfl, SqT.of hp, rfl, _, rfl, by omega, by omega, fun D hD => ?_⟩
        rw [Int.toNat_natCast]
        refine comp_valR (fun _ => some (.int 0)) hD (by omega) (fun i H1 G F hi s1 kG kF => kF _ H1 (Same.refl _) rfl) (fun H1 s1 e1 => ?_)
        rw [fm_zero] at e1
        exact hD' _ _ ⟨D, rfl, e1, s1⟩
      · refine iteF ?_
        exact hD' _ _ ⟨cl, rfl, hcl, Same.refl _⟩
    rintro σ H1 ⟨cl, rfl, hcl, s1⟩
    have hp1 := s1 _ _ hp
    refine seq_one (fun R g => ?_)
    refine ⟨_, rfl, _, rfl, _, _, _, _, rfl, rfl, SqT.of hp1, rfl, cl, m, ns, rfl, hcl, nl, fun good H2 s2 => ?_, fun bad H2 s2 => k2 bad H2 (Kp.of_same (s1.trans s2))⟩
    refine g _ _ ?_
    have s02 := s1.trans s2
    have ho2 := s02 _ _ ho
    have hp2 := s02 _ _ hp
    have hL2 := s02 _ _ hL
    have hcl2 := s2 _ _ hcl
    have hrows2 : ∀ (k : Nat) (r : Addr) (x : List Rw), rs0[k]? = some r → rws[k]? = some x → RowsH H2 r m x := fun k r x a b => (hrows k r x a b).same s02
    -- the works is tagged ahead
    have B2 : Bs H τ o (tgSet τ o [i, 0]) H2 := ⟨fun x e => by rw [tgSet_ne (ne_of_none ho2 e).symm]; exact un.same s02 x e, Kp.of_same s02, fun x u e n => tgSet_ne n⟩
    have to2 : tgSet τ o [i, 0] o = [i, 0] := tgSet_same
    generalize tgSet τ o [i, 0] = τ2 at B2 to2
    -- self.program
    refine seq_one (fun R g => ?_)
    refine ⟨_, rfl, _, _, _, _, rfl, rfl, SqT.of hp2, rfl, _, rfl, _, _, _, _, rfl, rfl, SqT.of hp2, rfl, L0, rfl, ⟨_, SqL.of hL2⟩, fun L hLn => ?_⟩
    have sL := same_new (o := HO.lst []) hLn
    have nLo : L ≠ o := (ne_of_none ho2 hLn).symm
    refine comp_list (K := K) (xs := rs0.map V.ref) (fun j σ Hc => ∃ (v : Option V) (τc : Tg) (rs : List Addr), σ = [v] ∧ rs.length = j ∧ Same H2 Hc ∧ Hc L = some (.lst (rs.map V.ref)) ∧ Bs H τ o τc Hc ∧ τc o = [i, 0] ∧ τc L = [0] ∧ ∀ (k : Nat) (r : Addr) (x : List Rw), rs[k]? = some r → rws[k]? = some x → r ≠ L ∧ τc r = [0] ∧ RowsH Hc r m x) ?_ ?_ ?_ ?_
    · exact ⟨none, tgSet τ2 L [0], [], rfl, rfl, sL, upd_same, B2.claim sL hLn ⟨_, upd_same⟩, by rw [tgSet_ne nLo.symm]; exact to2, tgSet_same, fun k r x h => by simp at h⟩
    · rintro j σ Hc hj ⟨v, τc, rs, rfl, _, sc, _⟩
      exact SqL.of (sc _ _ hL2)
    · rintro j x σ Hc hj ⟨v, τc, rs, rfl, lj, sc, hLc, Bc, toc, tLc, hc⟩
      rw [List.getElem?_map] at hj
      obtain ⟨r0, er0, rfl⟩ : ∃ r0, rs0[j]? = some r0 ∧ x = .ref r0 := by
        cases e : rs0[j]? with
        | none => rw [e] at hj; cases hj
        | some r0 => rw [e] at hj; exact ⟨r0, rfl, (Option.some.inj hj).symm⟩
      have jl : j < rws.length := by rw [← lr]; exact (List.getElem?_eq_some_iff.mp er0).1
      have ex : rws[j]? = some rws[j] := by simp [jl]
      have rr := hrows2 j r0 _ er0 ex
      obtain ⟨ts, hts, dts, rq, rl'⟩ := rr
      dsimp only [gName, tAll]
      rw [if_pos rfl]
      refine ⟨_, rfl, r0, _, rfl, .inl (SqL.of (sc _ _ hts)), fun r hrn => ?_⟩
      have sr := same_new (o := HO.lst ts) hrn
      have nrL : r ≠ L := (ne_of_none hLc hrn).symm
      have nro : r ≠ o := (ne_of_none (sc _ _ ho2) hrn).symm
      have hLf : H L = none := s02.free hLn
      refine ⟨rs.map V.ref, sr _ _ hLc, (by rw [List.length_map, sizeLine_eq]; omega), some (.ref r0), tgSet τc r [0], rs ++ [r], rfl, by simp [lj], fun y u e => ?_, by rw [upd_same]; simp, (Bc.claim sr hrn ⟨_, upd_same⟩).set (.inr hLf), ?_, ?_, ?_⟩
      · rw [upd_ne (ne_of_none e hLn)]
        exact sr _ _ (sc _ _ e)
      · rw [tgSet_ne nro.symm]; exact toc
      · rw [tgSet_ne nrL.symm]; exact tLc
      · intro k r' x' h1 h2
        have tups : ∀ y ys, Hc y = some (.tup ys) → (upd (upd Hc r (.lst ts)) L (.lst (rs.map V.ref ++ [V.ref r]))) y = some (.tup ys) := fun y ys e => by
          rw [upd_ne (ne_of e hLc (by intro z; cases z))]
          exact sr _ _ e
        rcases get_snoc h1 with h1 | ⟨e1, rfl⟩
        · obtain ⟨n1, t1, R1⟩ := hc k r' x' h1 h2
          have rr := R1
          obtain ⟨ts', hr', _⟩ := rr
          have n2 : r' ≠ r := ne_of_none hr' hrn
          refine ⟨n1, by rw [tgSet_ne n2]; exact t1, R1.keep (fun u e => ?_) tups⟩
          rw [upd_ne n1]
          exact sr _ _ e
        · rw [e1, lj, ex] at h2
          cases h2
          refine ⟨nrL, tgSet_same, ts, by rw [upd_ne nrL, upd_same], ?_, rq, rl'⟩
          exact dts.keep (fun y ys e => tups _ _ (sc _ _ e)) _ (imms_rws _)
    rintro σ H3 ⟨v, τ3, rs, rfl, lrs, s23, hL3, B3, to3, tL3, hr3⟩
    rw [List.length_map] at lrs
    have ho3 := s23 _ _ ho2
    refine ⟨(by show 2 ≤ sizeLine; decide), fun pg hpg => ?_⟩
    have spg := same_new (o := HO.tup [V.int m, V.ref L]) hpg
    refine ⟨_, rfl, o, C_Works, dx, _, rfl, spg _ _ ho3, Z_Works.cls, Z_Works.n_program, (by show 0 < 1000; decide), ?_⟩
    refine g _ _ ?_
    have npgo : pg ≠ o := (ne_of_none ho3 hpg).symm
    have ho4 : (upd (upd H3 pg (.tup [V.int m, V.ref L])) o (.ins C_Works dx (putF "program" (.ref pg) []))) o = some (.ins C_Works dx [("program", .ref pg)]) := upd_same
    have hpg4 : (upd (upd H3 pg (.tup [V.int m, V.ref L])) o (.ins C_Works dx (putF "program" (.ref pg) []))) pg = some (.tup [V.int m, V.ref L]) := by rw [upd_ne npgo, upd_same]
    have q4 : MvT [[i, 0]] τ3 H3 τ3 (upd (upd H3 pg (.tup [V.int m, V.ref L])) o (.ins C_Works dx (putF "program" (.ref pg) []))) := (MvT.of_same spg).trans (MvT.set (by rw [to3]; simp) (spg _ _ ho3) (by intro xs z; cases z))
    have B4 : Bs H τ o τ3 (upd (upd H3 pg (.tup [V.int m, V.ref L])) o (.ins C_Works dx (putF "program" (.ref pg) []))) := (B3.same spg).set (.inl rfl)
    have kp4 : Kp o H3 (upd (upd H3 pg (.tup [V.int m, V.ref L])) o (.ins C_Works dx (putF "program" (.ref pg) []))) := (Kp.of_same spg).trans Kp.set
    generalize (upd (upd H3 pg (.tup [V.int m, V.ref L])) o (.ins C_Works dx (putF "program" (.ref pg) []))) = H4 at ho4 hpg4 q4 B4 kp4 ⊢
    have hL4 := (q4.keep _ _ hL3 (by rw [tL3]; simp)).1
    have hr4 : ∀ (k : Nat) (r : Addr) (x : List Rw), rs[k]? = some r → rws[k]? = some x → τ3 r = [0] ∧ RowsH H4 r m x := fun k r x h1 h2 => rows_mvT ⟨(hr3 k r x h1 h2).2.1, (hr3 k r x h1 h2).2.2⟩ q4 (by simp)
    have nclo : cl ≠ o := ne_of hcl2 ho2 (by intro z; cases z)
    have hcl4 := kp4 _ _ (s23 _ _ hcl2) nclo
    -- self.numbers
    refine seq_one (fun R g => ?_)
    refine ⟨_, rfl, cl, _, rfl, .inl (SqL.of hcl4), fun nb hnb => ?_⟩
    have snb := same_new (o := HO.lst (ns.map V.int)) hnb
    refine ⟨_, rfl, o, C_Works, dx, _, rfl, snb _ _ ho4, Z_Works.cls, Z_Works.n_numbers, (by show 1 < 1000; decide), ?_⟩
    refine g _ _ ?_
    have nnbo : nb ≠ o := (ne_of_none ho4 hnb).symm
    have ho5 : (upd (upd H4 nb (.lst (ns.map V.int))) o (.ins C_Works dx (putF "numbers" (.ref nb) [("program", .ref pg)]))) o = some (.ins C_Works dx [("program", .ref pg), ("numbers", .ref nb)]) := upd_same
    have hnb5 : (upd (upd H4 nb (.lst (ns.map V.int))) o (.ins C_Works dx (putF "numbers" (.ref nb) [("program", .ref pg)]))) nb = some (.lst (ns.map V.int)) := by rw [upd_ne nnbo, upd_same]
    have q5 : MvT [[i, 0]] τ3 H4 (tgSet τ3 nb [i, 1]) (upd (upd H4 nb (.lst (ns.map V.int))) o (.ins C_Works dx (putF "numbers" (.ref nb) [("program", .ref pg)]))) := (MvT.claim snb hnb).trans (MvT.set (by rw [tgSet_ne nnbo.symm, to3]; simp) (snb _ _ ho4) (by intro xs z; cases z))
    have B5 : Bs H τ o (tgSet τ3 nb [i, 1]) (upd (upd H4 nb (.lst (ns.map V.int))) o (.ins C_Works dx (putF "numbers" (.ref nb) [("program", .ref pg)]))) := (B4.claim snb hnb ⟨_, upd_same⟩).set (.inl rfl)
    have to5 : tgSet τ3 nb [i, 1] o = [i, 0] := by rw [tgSet_ne nnbo.symm]; exact to3
    have tn5 : tgSet τ3 nb [i, 1] nb = [i, 1] := tgSet_same
    generalize (upd (upd H4 nb (.lst (ns.map V.int))) o (.ins C_Works dx (putF "numbers" (.ref nb) [("program", .ref pg)]))) = H5 at ho5 hnb5 q5 B5 ⊢
    generalize tgSet τ3 nb [i, 1] = τ5 at q5 B5 to5 tn5
    have hL5 := q5.keep _ _ hL4 (by rw [tL3]; simp)
    have hr5 : ∀ (k : Nat) (r : Addr) (x : List Rw), rs[k]? = some r → rws[k]? = some x → τ5 r = [0] ∧ RowsH H5 r m x := fun k r x h1 h2 => rows_mvT (hr4 k r x h1 h2) q5 (by simp)
    have hpg5 := q5.tup _ _ hpg4
    have tL5 : τ5 L = [0] := hL5.2.trans tL3
    have hL5 := hL5.1
    -- self.hands
    refine seq_one (fun R g => ?_)
    refine ⟨_, rfl, o, C_Works, dx, _, _, rfl, ho5, Z_Works.cls, Z_Works.n_program, rfl, _, _, _, _, rfl, rfl, SqT.of hpg5, rfl, L, rfl, ⟨_, SqL.of hL5⟩, fun hl hhl => ?_⟩
    have shl := same_new (o := HO.lst []) hhl
    have nhlo : hl ≠ o := (ne_of_none ho5 hhl).symm
    refine comp_list (K := K) (xs := rs.map V.ref) (fun j σ Hc => ∃ (v : Option V) (τc : Tg) (hd : List HAd), σ = [v] ∧ hd.length = j ∧ Same H5 Hc ∧ Hc hl = some (.lst (hd.map fun a => .ref a.h)) ∧ Bs H τ o τc Hc ∧ (∀ x u, H5 x = some u → τc x = τ5 x) ∧ τc hl = [i, 2] ∧ ∀ (k : Nat) (A : HAd) (x : List Rw), hd[k]? = some A → rws[k]? = some x → HdAt C_Hand i k m τc Hc A (new x) ∧ H A.h = none ∧ H A.b = none ∧ H A.sy = none) ?_ ?_ ?_ ?_
    · exact ⟨none, tgSet τ5 hl [i, 2], [], rfl, rfl, shl, upd_same, B5.claim shl hhl ⟨_, upd_same⟩, fun x u e => tgSet_ne (ne_of_none e hhl), tgSet_same, fun k A x h => by simp at h⟩
    · rintro j σ Hc hj ⟨v, τc, hd, rfl, _, sc, _⟩
      exact SqL.of (sc _ _ hL5)
    · rintro j x σ Hc hj ⟨v, τc, hd, rfl, lj, sc, hlc, Bc, tgc, tlc, hc⟩
      rw [List.getElem?_map] at hj
      obtain ⟨r, er, rfl⟩ : ∃ r, rs[j]? = some r ∧ x = .ref r := by
        cases e : rs[j]? with
        | none => rw [e] at hj; cases hj
        | some r0 => rw [e] at hj; exact ⟨r0, rfl, (Option.some.inj hj).symm⟩
      have jl : j < rws.length := by rw [← lr, ← lrs]; exact (List.getElem?_eq_some_iff.mp er).1
      have ex : rws[j]? = some rws[j] := by simp [jl]
      obtain ⟨tr, R⟩ := hr5 j r _ er ex
      have rr := R
      obtain ⟨ts, hts, _⟩ := rr
      dsimp only [gName, tAll]
      rw [if_pos rfl]
      refine ⟨_, rfl, fun h hx hn hxn nhx => ?_⟩
      have hn' : (upd Hc hx (.own h)) h = none := by rw [upd_ne nhx.symm]; exact hn
      have sm : Same Hc (upd (upd Hc hx (.own h)) h (.ins C_Hand hx [])) := (same_new hxn).trans (same_new hn')
      refine ⟨h, r, hx, rfl, upd_same, fun b sy H7 hb hsy nbsy h7 b7 sy7 k7 => ⟨rfl, ?_⟩⟩
      have S7 : Same Hc H7 := fun y u e => k7 _ _ (sm _ _ e) (ne_of_none e hn)
      have fb : Hc b = none := sm.free hb
      have fy : Hc sy = none := sm.free hsy
      have nhl : hl ≠ h := ne_of_none hlc hn
      have nbl : hl ≠ b := ne_of_none hlc fb
      have nyl : hl ≠ sy := ne_of_none hlc fy
      have nhb : h ≠ b := ne_of_none upd_same hb
      have nhy : h ≠ sy := ne_of_none upd_same hsy
      have hlf : H hl = none := B5.fresh hhl nhlo
      have sH : Same Hc Hc := Same.refl _
      have T : ∀ x u, Hc x = some u → tgSet (tgSet (tgSet τc h [i, 4, j]) b [i, 5, j]) sy [i, 6, j] x = τc x := fun y u e => by rw [tgSet_ne (ne_of_none e fy), tgSet_ne (ne_of_none e fb), tgSet_ne (ne_of_none e hn)]
      have B7 : Bs H τ o (tgSet (tgSet (tgSet τc h [i, 4, j]) b [i, 5, j]) sy [i, 6, j]) H7 := by
        refine ⟨fun y e => ?_, Bc.kp.trans (Kp.of_same S7), fun y u e n => ?_⟩
        · have n1 : y ≠ h := fun z => by rw [z, h7] at e; cases e
          have n2 : y ≠ b := fun z => by rw [z, b7] at e; cases e
          have n3 : y ≠ sy := fun z => by rw [z, sy7] at e; cases e
          rw [tgSet_ne n3, tgSet_ne n2, tgSet_ne n1]
          exact Bc.un y (S7.free e)
        · rw [T y u (Bc.kp _ _ e n)]
          exact Bc.tg y u e n
      have q7 : MvT [[i, 2]] τc Hc (tgSet (tgSet (tgSet τc h [i, 4, j]) b [i, 5, j]) sy [i, 6, j]) (upd H7 hl (.lst ((hd.map fun a => V.ref a.h) ++ [V.ref h]))) := by
        refine ⟨fun y u e n => ⟨?_, T y u e⟩, fun y ys e => ?_⟩
        · rw [upd_ne (fun z : y = hl => n (by rw [z, tlc]; simp))]
          exact S7 _ _ e
        · rw [upd_ne (ne_of e hlc (by intro z; cases z))]
          exact S7 _ _ e
      have Th : tgSet (tgSet (tgSet τc h [i, 4, j]) b [i, 5, j]) sy [i, 6, j] h = [i, 4, j] := by rw [tgSet_ne nhy, tgSet_ne nhb, tgSet_same]
      have Tb : tgSet (tgSet (tgSet τc h [i, 4, j]) b [i, 5, j]) sy [i, 6, j] b = [i, 5, j] := by rw [tgSet_ne nbsy, tgSet_same]
      have Ty : tgSet (tgSet (tgSet τc h [i, 4, j]) b [i, 5, j]) sy [i, 6, j] sy = [i, 6, j] := tgSet_same
      generalize tgSet (tgSet (tgSet τc h [i, 4, j]) b [i, 5, j]) sy [i, 6, j] = τ7 at T B7 q7 Th Tb Ty
      refine ⟨_, S7 _ _ hlc, (by rw [List.length_map, sizeLine_eq]; omega), some (.ref r), τ7, hd ++ [⟨h, hx, r, b, sy⟩], rfl, by simp [lj], fun y u e => ?_, by rw [upd_same]; simp, B7.set (.inr hlf), fun y u e => ?_, ?_, ?_⟩
      · rw [upd_ne (ne_of_none e hhl)]
        exact S7 _ _ (sc _ _ e)
      · rw [T y u (sc _ _ e)]
        exact tgc y u e
      · rw [T _ _ hlc]; exact tlc
      · intro k A x' h1 h2
        rcases get_snoc h1 with h1 | ⟨e1, rfl⟩
        · exact ⟨(hc k A x' h1 h2).1.mvT q7 (by simp) (by simp) (by simp) (by simp), (hc k A x' h1 h2).2⟩
        · rw [e1, lj, ex] at h2
          cases h2
          rw [e1, lj]
          have tr' : τc r = [0] := by rw [tgc _ _ hts]; exact tr
          obtain ⟨t9, R9⟩ := rows_mvT ⟨tr', R.same sc⟩ q7 (by simp)
          have hoc := sc _ _ ho5
          exact ⟨⟨⟨by rw [upd_ne nhl.symm]; exact h7, by rw [upd_ne nbl.symm]; exact b7, by rw [upd_ne nyl.symm]; exact sy7, nbsy, rfl⟩, R9, t9, Th, Tb, Ty⟩, Bc.fresh hn (ne_of_none hoc hn).symm, Bc.fresh fb (ne_of_none hoc fb).symm, Bc.fresh fy (ne_of_none hoc fy).symm⟩
    rintro σ H8 ⟨v, τ8, hd, rfl, lhd, s58, hhl8, B8, tg8, tl8, hd8⟩
    rw [List.length_map] at lhd
    have ho8 := s58 _ _ ho5
    have to8 : τ8 o = [i, 0] := by rw [tg8 _ _ ho5]; exact to5
    refine ⟨_, rfl, o, C_Works, dx, _, rfl, ho8, Z_Works.cls, Z_Works.n_hands, (by show 2 < 1000; decide), ?_⟩
    refine g _ _ ?_
    have ho9 : (upd H8 o (.ins C_Works dx (putF "hands" (.ref hl) [("program", .ref pg), ("numbers", .ref nb)]))) o = some (.ins C_Works dx [("program", .ref pg), ("numbers", .ref nb), ("hands", .ref hl)]) := upd_same
    have q9 : MvT [[i, 0]] τ8 H8 τ8 (upd H8 o (.ins C_Works dx (putF "hands" (.ref hl) [("program", .ref pg), ("numbers", .ref nb)]))) := MvT.set (by rw [to8]; simp) ho8 (by intro xs z; cases z)
    have B9 : Bs H τ o τ8 (upd H8 o (.ins C_Works dx (putF "hands" (.ref hl) [("program", .ref pg), ("numbers", .ref nb)]))) := B8.set (.inl rfl)
    generalize (upd H8 o (.ins C_Works dx (putF "hands" (.ref hl) [("program", .ref pg), ("numbers", .ref nb)]))) = H9 at ho9 q9 B9 ⊢
    -- self.turns
    refine seq_one (fun R g => ?_)
    refine ⟨(by show 0 ≤ sizeLine; decide), fun tn htn => ?_⟩
    have stn := same_new (o := HO.lst []) htn
    refine ⟨_, rfl, o, C_Works, dx, _, rfl, stn _ _ ho9, Z_Works.cls, Z_Works.n_turns, (by show 3 < 1000; decide), ?_⟩
    refine g _ _ ?_
    have ntno : tn ≠ o := (ne_of_none ho9 htn).symm
    have ho10 : (upd (upd H9 tn (.lst [])) o (.ins C_Works dx (putF "turns" (.ref tn) [("program", .ref pg), ("numbers", .ref nb), ("hands", .ref hl)]))) o = some (.ins C_Works dx (wF pg nb hl tn)) := upd_same
    have htn10 : (upd (upd H9 tn (.lst [])) o (.ins C_Works dx (putF "turns" (.ref tn) [("program", .ref pg), ("numbers", .ref nb), ("hands", .ref hl)]))) tn = some (.lst []) := by rw [upd_ne ntno, upd_same]
    have q10 : MvT [[i, 0]] τ8 H9 (tgSet τ8 tn [i, 3]) (upd (upd H9 tn (.lst [])) o (.ins C_Works dx (putF "turns" (.ref tn) [("program", .ref pg), ("numbers", .ref nb), ("hands", .ref hl)]))) := (MvT.claim stn htn).trans (MvT.set (by rw [tgSet_ne ntno.symm, to8]; simp) (stn _ _ ho9) (by intro xs z; cases z))
    have B10 : Bs H τ o (tgSet τ8 tn [i, 3]) (upd (upd H9 tn (.lst [])) o (.ins C_Works dx (putF "turns" (.ref tn) [("program", .ref pg), ("numbers", .ref nb), ("hands", .ref hl)]))) := (B9.claim stn htn ⟨_, upd_same⟩).set (.inl rfl)
    have to10 : tgSet τ8 tn [i, 3] o = [i, 0] := by rw [tgSet_ne ntno.symm]; exact to8
    have tt10 : tgSet τ8 tn [i, 3] tn = [i, 3] := tgSet_same
    have q810 := q9.trans q10
    generalize (upd (upd H9 tn (.lst [])) o (.ins C_Works dx (putF "turns" (.ref tn) [("program", .ref pg), ("numbers", .ref nb), ("hands", .ref hl)]))) = H10 at ho10 htn10 q10 B10 q810 ⊢
    generalize tgSet τ8 tn [i, 3] = τ10 at q10 B10 to10 tt10 q810
    have hhl10 := q810.keep _ _ hhl8 (by rw [tl8]; simp)
    have tl10 : τ10 hl = [i, 2] := hhl10.2.trans tl8
    have hhl10 := hhl10.1
    have n5 : ∀ x u, H5 x = some u → τ5 x ≠ [i, 0] → H10 x = some u ∧ τ10 x = τ5 x := fun x u e n => by
      have := q810.keep _ _ (s58 _ _ e) (by rw [tg8 _ _ e]; simp [n])
      exact ⟨this.1, by rw [this.2, tg8 _ _ e]⟩
    have hL10 := n5 _ _ hL5 (by rw [tL5]; simp)
    have hnb10 := n5 _ _ hnb5 (by rw [tn5]; simp)
    have hpg10 := q810.tup _ _ (s58 _ _ hpg5)
    have hd10 : ∀ (k : Nat) (A : HAd) (x : List Rw), hd[k]? = some A → rws[k]? = some x → HdAt C_Hand i k m τ10 H10 A (new x) := fun k A x h1 h2 => (hd8 k A x h1 h2).1.mvT q810 (by simp) (by simp) (by simp) (by simp)
    have hr10 : ∀ (k : Nat) (r : Addr) (x : List Rw), rs[k]? = some r → rws[k]? = some x → τ10 r = [0] ∧ RowsH H10 r m x := fun k r x h1 h2 => by
      obtain ⟨t5, R5⟩ := hr5 k r x h1 h2
      have rr := R5
      obtain ⟨ts, hts, _⟩ := rr
      exact rows_mvT ⟨by rw [tg8 _ _ hts]; exact t5, R5.same s58⟩ q810 (by simp)
    have lh : hd.length = rws.length := by rw [lhd, lrs, lr]
    -- led on
    refine ⟨_, rfl, o, C_Works, dx, _, _, rfl, ho10, Z_Works.cls, Z_Works.n_hands, rfl, hl, rfl, ⟨_, SqL.of hhl10⟩, ?_⟩
    refine for_list (K := K) (a := hl) (xs := hd.map fun a => V.ref a.h) (fun j σ Hc => ∃ x1 : Option V, σ = [some (.ref o), some (.ref p), some (.ref cl), x1] ∧ (∀ x u, H10 x = some u → (∀ k, τ10 x ≠ [i, 4, k]) → (∀ k, τ10 x ≠ [i, 5, k]) → (∀ k, τ10 x ≠ [i, 6, k]) → Hc x = some u) ∧ (∀ x ys, H10 x = some (.tup ys) → Hc x = some (.tup ys)) ∧ Bs H τ o τ10 Hc ∧
      ∀ (k : Nat) (A : HAd) (x : List Rw), hd[k]? = some A → rws[k]? = some x → HdAt C_Hand i k m τ10 Hc A (if k < j then lead (new x) else new x))
      ⟨none, rfl, fun x u e _ _ _ => e, fun x ys e => e, B10, fun k A x h1 h2 => by rw [if_neg (by omega)]; exact hd10 k A x h1 h2⟩ (fun j σ Hc _ ⟨_, _, kc, _⟩ => SqL.of (kc _ _ hhl10 (by rw [tl10]; simp) (by rw [tl10]; simp) (by rw [tl10]; simp))) ?_ ?_
    · rintro j v σ Hc hj ⟨x1, rfl, kc, tc, Bc, hc⟩
      rw [List.getElem?_map] at hj
      obtain ⟨A, eA, rfl⟩ : ∃ A, hd[j]? = some A ∧ v = .ref A.h := by
        cases e : hd[j]? with
        | none => rw [e] at hj; cases hj
        | some A => rw [e] at hj; exact ⟨A, rfl, (Option.some.inj hj).symm⟩
      have jl : j < rws.length := by rw [← lh]; exact (List.getElem?_eq_some_iff.mp eA).1
      have ex : rws[j]? = some rws[j] := by simp [jl]
      have a := hc j A _ eA ex
      rw [if_neg (by omega)] at a
      refine ⟨_, rfl, A.h, A.hx, _, rfl, a.c.h, rfl, A, _, m, rfl, a.c, a.r, ne_tag a.tr a.tb (by intro z; cases z), ne_tag a.tr a.ty (by intro z; cases z), (by show 0 < 900000; decide), fun H12 c12 k12 => ?_⟩
      have q12 : MvT [[i, 4, j], [i, 5, j], [i, 6, j]] τ10 Hc τ10 H12 := ⟨fun x u e n => ⟨k12 _ _ e (fun z => n (by rw [z, a.th]; simp)) (fun z => n (by rw [z, a.tb]; simp)) (fun z => n (by rw [z, a.ty]; simp)), rfl⟩, a.c.tup k12⟩
      refine ⟨_, rfl, fun x u e n4 n5 n6 => (q12.keep _ _ (kc x u e n4 n5 n6) (by simp [n4, n5, n6])).1, fun x ys e => q12.tup _ _ (tc _ _ e), ?_, ?_⟩
      · obtain ⟨f1, f2, f3⟩ := (hd8 j A _ eA ex).2
        refine ⟨Bc.un.dom fun x e => ?_, fun x u e n => k12 _ _ (Bc.kp _ _ e n) (ne_of_none e f1) (ne_of_none e f2) (ne_of_none e f3), Bc.tg⟩
        cases q : Hc x with
        | none => rfl
        | some u =>
          have no : ∀ y o, H12 y = some o → x ≠ y := fun y o h z => by rw [z, h] at e; cases e
          rw [k12 _ _ q (no _ _ c12.h) (no _ _ c12.b) (no _ _ c12.y)] at e
          cases e
      · intro k A' x h1 h2
        by_cases z : k = j
        · subst z
          rw [eA] at h1
          cases h1
          rw [ex] at h2
          cases h2
          rw [if_pos (by omega)]
          have lr' : (lead (new rws[k])).rws = rws[k] := led_rws _ _
          refine ⟨c12, ?_, a.tr, a.th, a.tb, a.ty⟩
          rw [lr']
          exact (rows_mvT ⟨a.tr, a.r⟩ q12 (by simp)).2
        · have b := (hc k A' x h1 h2).mvT q12 (by simp) (by simp [z]) (by simp [z]) (by simp [z])
          by_cases lt : k < j
          · rw [if_pos lt] at b
            rw [if_pos (by omega)]
            exact b
          · rw [if_neg lt] at b
            rw [if_neg (by omega)]
            exact b
    · rintro σ H11 ⟨x1, rfl, kc, tc, Bc, hc⟩
      rw [List.length_map] at hc
      have kt : ∀ x u t, H10 x = some u → τ10 x = t → (∀ k, t ≠ [i, 4, k]) → (∀ k, t ≠ [i, 5, k]) → (∀ k, t ≠ [i, 6, k]) → H11 x = some u := fun x u t e et n4 n5 n6 => kc x u e (by rw [et]; exact n4) (by rw [et]; exact n5) (by rw [et]; exact n6)
      have tL10 : τ10 L = [0] := hL10.2.trans tL5
      have tn10 : τ10 nb = [i, 1] := hnb10.2.trans tn5
      have get : ∀ (k : Nat) (s : HandS), (rws.map fun r => lead (new r))[k]? = some s → ∃ x, rws[k]? = some x ∧ s = lead (new x) := fun k s e => by
        rw [List.getElem?_map] at e
        cases q : rws[k]? with
        | none => rw [q] at e; cases e
        | some x => rw [q] at e; exact ⟨x, rfl, (Option.some.inj e).symm⟩
      refine k1 good τ10 ⟨o, dx, pg, L, nb, hl, tn, rs, hd⟩ H11 rfl ⟨Bc.un, i0, kt _ _ _ ho10 to10 (by simp) (by simp) (by simp), tc _ _ hpg10, kt _ _ _ hL10.1 tL10 (by simp) (by simp) (by simp), kt _ _ _ hnb10.1 tn10 (by simp) (by simp) (by simp), kt _ _ _ hhl10 tl10 (by simp) (by simp) (by simp), kt _ _ _ htn10 tt10 (by simp) (by simp) (by simp), to10, tn10, tl10, tt10, tL10, ?_, ?_, ?_, ?_, ?_, ?_, ?_, ?_⟩ Bc.tg Bc.kp
      · show rs.length = (rws.map _).length
        rw [List.length_map, lrs, lr]
      · intro k r s h1 h2
        obtain ⟨x, ex, rfl⟩ := get k s h2
        obtain ⟨t1, R1⟩ := hr10 k r x h1 ex
        have lr' : (lead (new x)).rws = x := led_rws _ _
        rw [lr']
        exact ⟨t1, R1.keep (fun u e => kt _ _ _ e t1 (by simp) (by simp) (by simp)) tc⟩
      · show hd.length = (rws.map _).length
        rw [List.length_map, lh]
      · intro k A s h1 h2
        obtain ⟨x, ex, rfl⟩ := get k s h2
        have := hc k A x h1 ex
        rw [if_pos (List.getElem?_eq_some_iff.mp h1).1] at this
        exact this
      · intro s ms
        obtain ⟨x, _, rfl⟩ := List.mem_map.mp ms
        exact led_ok _ _
      · intro s ms
        obtain ⟨x, _, rfl⟩ := List.mem_map.mp ms
        exact led_sy 60 (new x)
      · have := good.1
        show ns.length = m
        omega
      · show (rws.map _).length ≤ 100
        rw [List.length_map]
        exact rl

/-! ### alike, by going through both at once -/
def PlA : Nat → PyData → Prop
  | 0, _ => False
  | n + 1, .list ds => ds.length ≤ 20000 ∧ ∀ d ∈ ds, PlA n d
  | n + 1, .tuple ds => ds.length ≤ 20000 ∧ ∀ d ∈ ds, PlA n d
  | _ + 1, .int _ => True
  | _ + 1, .str _ => True
  | _ + 1, .none => True
  | _ + 1, .bool _ => True
  | _ + 1, _ => False
theorem PlA.ints {n : Nat} {ns : List Int} (h : ns.length ≤ 20000) : PlA (n + 2) (.list (ns.map PyData.int)) := by
  refine ⟨by rw [List.length_map]; exact h, fun d hd => ?_⟩
  obtain ⟨i, _, rfl⟩ := List.mem_map.mp hd
  trivial
theorem isi_s_t (K : PySem.W.Frag) : PySem.W.kitOne K (.type "str") (.type "tuple") = some false := by kernel_rfl
theorem isi_s_l (K : PySem.W.Frag) : PySem.W.kitOne K (.type "str") (.type "list") = some false := by kernel_rfl
theorem isi_s_b (K : PySem.W.Frag) : PySem.W.kitOne K (.type "str") (.type "bool") = some false := by kernel_rfl
theorem isi_s_s (K : PySem.W.Frag) : PySem.W.kitOne K (.type "str") (.type "str") = some true := rfl
theorem isi_i_t (K : PySem.W.Frag) : PySem.W.kitOne K (.type "int") (.type "tuple") = some false := by kernel_rfl
theorem isi_i_l (K : PySem.W.Frag) : PySem.W.kitOne K (.type "int") (.type "list") = some false := by kernel_rfl
theorem isi_i_s (K : PySem.W.Frag) : PySem.W.kitOne K (.type "int") (.type "str") = some false := by kernel_rfl
theorem isi_b_t (K : PySem.W.Frag) : PySem.W.kitOne K (.type "bool") (.type "tuple") = some false := by kernel_rfl
theorem isi_b_l (K : PySem.W.Frag) : PySem.W.kitOne K (.type "bool") (.type "list") = some false := by kernel_rfl
theorem isi_n_t (K : PySem.W.Frag) : PySem.W.kitOne K (.type "NoneType") (.type "tuple") = some false := by kernel_rfl
theorem isi_n_l (K : PySem.W.Frag) : PySem.W.kitOne K (.type "NoneType") (.type "list") = some false := by kernel_rfl
theorem fm_const' (n : Nat) (v : V) : (List.range n).filterMap (fun _ => some v) = List.replicate n v := by
  induction n with
  | zero => rfl
  | succ n ih => rw [fm_succ, ih, List.replicate_succ']; rfl
def spAlike (n : Nat) (K : PySem.W.Frag) : Sp := fun vs H Q _ => ∃ (x y : V) (d : PyData), vs = [x, y] ∧ Dat H x d ∧ Dat H y d ∧ PlA n d ∧ ∀ H', Same H H' → Q (.bl true) H'
theorem ok_alike0 {f : Addr} {fd : FuncData} (F : Fun K "_law_alike" "_law_alike" s_Lalike f fd) : FnOk P w K mg base CX0 1 f fd ["found", "due"] (spAlike 0 K) := by
  refine F.ok sc_Lalike (fun vs H Q E h => ?_) (fun cdv A outer s H vs Q E hr h => ?_)
  · obtain ⟨x, y, d, _, _, _, z, _⟩ := h
    exact z.elim
  · obtain ⟨x, y, d, _, _, _, z, _⟩ := h
    exact z.elim
theorem ok_alikeS {n : Nat} {f : Addr} {fd : FuncData} (F : Fun K "_law_alike" "_law_alike" s_Lalike f fd) (F_Lalike : FnAt P w K mg base (n + 1) "_law_alike" ["found", "due"] (spAlike n K)) (Bt : Blt mg) : FnOk P w K mg base CX0 (n + 1 + 1) f fd ["found", "due"] (spAlike (n + 1) K) := by
  refine F.ok sc_Lalike (fun vs H Q E h => ?_) (fun cdv A outer s H vs Q E hr h => ?_)
  · obtain ⟨x, y, d, rfl, _⟩ := h
    rfl
  · obtain ⟨x, y, d, rfl, dx, dy, pl, k⟩ := h
    refine ⟨_, (pss_cons (ps_if (PW.pt (pw_or (pt_val (pe_callB (call_isiK (K := K) (cv := .ty "tuple") (c := .type "tuple") rfl rfl) (by rfl) Bt.b_isinstance bt_isinstance (pa_cons (pv 1) (pa_cons (pe_bltn (v := .ty "tuple") (by rfl) Bt.b_tuple bt_tuple rfl) pa_nil)))) (pw_or1 (pt_val (pe_callB (call_isiK (K := K) (cv := .ty "list") (c := .type "list") rfl rfl) (by rfl) Bt.b_isinstance bt_isinstance (pa_cons (pv 1) (pa_cons (pe_bltn (v := .ty "list") (by rfl) Bt.b_list bt_list rfl) pa_nil))))))) (pss_cons (ps_if (PW.pt (pw_or (pt_cmpR op_ne (pe_callB (call_isiK (K := K) (cv := .ty "tuple") (c := .type "tuple") rfl rfl) (by rfl) Bt.b_isinstance bt_isinstance (pa_cons (pv 0) (pa_cons (pe_bltn (v := .ty "tuple") (by rfl) Bt.b_tuple bt_tuple rfl) pa_nil))) (pe_callB (call_isiK (K := K) (cv := .ty "tuple") (c := .type "tuple") rfl rfl) (by rfl) Bt.b_isinstance bt_isinstance (pa_cons (pv 1) (pa_cons (pe_bltn (v := .ty "tuple") (by rfl) Bt.b_tuple bt_tuple rfl) pa_nil))) (nomark _)) (pw_or1 (pt_cmpR op_ne (pe_callB (call_isiK (K := K) (cv := .ty "list") (c := .type "list") rfl rfl) (by rfl) Bt.b_isinstance bt_isinstance (pa_cons (pv 0) (pa_cons (pe_bltn (v := .ty "list") (by rfl) Bt.b_list bt_list rfl) pa_nil))) (pe_callB (call_isiK (K := K) (cv := .ty "list") (c := .type "list") rfl rfl) (by rfl) Bt.b_isinstance bt_isinstance (pa_cons (pv 1) (pa_cons (pe_bltn (v := .ty "list") (by rfl) Bt.b_list bt_list rfl) pa_nil))) (nomark _))))) (pss_one (ps_ret pe_bl)) pss_nil)
      (pss_cons (ps_if (pt_cmpR op_ne (pe_callB (call_len_seqK (K := K) rfl) (by rfl) Bt.b_len bt_len (pa_cons (pv 0) pa_nil)) (pe_callB (call_len_seqK (K := K) rfl) (by rfl) Bt.b_len bt_len (pa_cons (pv 1) pa_nil)) (nomark _)) (pss_one (ps_ret pe_bl)) pss_nil)
      (pss_one (ps_ret (pe_callB (call_all_boolsK (K := K) rfl rfl) (by rfl) Bt.b_all bt_all (pa_cons (pe_comp rfl (N := ["mine", "other"]) (own := ["mine", "other"]) (caps := []) (CompScope.of (by kernel_rfl)) (pi_zipA (K := K) rfl (by rfl) Bt.b_zip (pa_cons (pv 0) (pa_cons (pv 1) pa_nil))) (fun _ _ _ _ => (pg_tupK (K := K) (n := 2) rfl rfl (pgs_cons (pg_name (i := 0) (show List.Nodup (["mine", "other"] : List Str) by decide +kernel) rfl (Or.inl rfl)) (pgs_cons (pg_name (i := 1) (show List.Nodup (["mine", "other"] : List Str) by decide +kernel) rfl (Or.inl rfl)) pgs_nil)))) (fun _ _ _ _ => pts_nil) (fun _ _ _ _ => (pe_fn F_Lalike (hr.mono (Nat.le_refl _)) (by rfl) (pa_cons (pv 0) (pa_cons (pv 1) pa_nil))))) pa_nil)))))) pss_nil)
      (pss_cons (ps_if (pt_cmpR op_isN (pv 1) pe_non (nomark _)) (pss_one (ps_ret (pe_cmpR op_isN (pv 0) pe_non (nomark _)))) pss_nil)
      (pss_cons (ps_if (PW.pt (pw_or (pt_val (pe_callB (call_isiK (K := K) (cv := .ty "bool") (c := .type "bool") rfl rfl) (by rfl) Bt.b_isinstance bt_isinstance (pa_cons (pv 1) (pa_cons (pe_bltn (v := .ty "bool") (by rfl) Bt.b_bool bt_bool rfl) pa_nil)))) (pw_or1 (pt_val (pe_callB (call_isiK (K := K) (cv := .ty "str") (c := .type "str") rfl rfl) (by rfl) Bt.b_isinstance bt_isinstance (pa_cons (pv 1) (pa_cons (pe_bltn (v := .ty "str") (by rfl) Bt.b_str bt_str rfl) pa_nil))))))) (pss_one (ps_ret (pe_and (pe_cmpR op_eq (pe_callB (call_isiK (K := K) (cv := .ty "bool") (c := .type "bool") rfl rfl) (by rfl) Bt.b_isinstance bt_isinstance (pa_cons (pv 0) (pa_cons (pe_bltn (v := .ty "bool") (by rfl) Bt.b_bool bt_bool rfl) pa_nil))) (pe_callB (call_isiK (K := K) (cv := .ty "bool") (c := .type "bool") rfl rfl) (by rfl) Bt.b_isinstance bt_isinstance (pa_cons (pv 1) (pa_cons (pe_bltn (v := .ty "bool") (by rfl) Bt.b_bool bt_bool rfl) pa_nil))) (nomark _)) (pe_one (pe_cmpR op_eq (pv 0) (pv 1) (nomark _)))))) pss_nil)
      (pss_one (ps_ret (pe_and (pe_callB (call_isiK (K := K) (cv := .ty "int") (c := .type "int") rfl rfl) (by rfl) Bt.b_isinstance bt_isinstance (pa_cons (pv 0) (pa_cons (pe_bltn (v := .ty "int") (by rfl) Bt.b_int bt_int rfl) pa_nil))) (pe_and (pe_not (pe_callB (call_isiK (K := K) (cv := .ty "bool") (c := .type "bool") rfl rfl) (by rfl) Bt.b_isinstance bt_isinstance (pa_cons (pv 0) (pa_cons (pe_bltn (v := .ty "bool") (by rfl) Bt.b_bool bt_bool rfl) pa_nil)))) (pe_one (pe_cmpR op_eq (pv 0) (pv 1) (nomark _)))))))))), ?_⟩
    match d, pl, dx, dy with
    | .int i, pl, dx, dy =>
      simp only [Dat] at dx dy
      subst dx dy
      refine ⟨_, rfl, _, _, false, rfl, .int i, isi_i_t K, _, rfl, iteF ?_⟩
      refine ⟨_, rfl, _, _, false, rfl, .int i, isi_i_l K, _, rfl, iteF ?_⟩
      refine ⟨_, rfl, rfl, _, rfl, iteF ?_⟩
      refine ⟨_, rfl, _, _, false, rfl, .int i, isi_int_bool K, _, rfl, iteF ?_⟩
      refine ⟨_, rfl, _, _, false, rfl, .int i, isi_i_s K, _, rfl, iteF ?_⟩
      refine ⟨_, rfl, _, _, true, rfl, .int i, isi_int_int K, _, rfl, iteT ?_⟩
      refine ⟨_, rfl, _, _, false, rfl, .int i, isi_int_bool K, _, rfl, _, rfl, iteT ?_⟩
      refine ⟨_, rfl, _, rfl, rfl, ?_⟩
      rw [decide_eq_true rfl]
      exact k _ (Same.refl _)
    | .str i, pl, dx, dy =>
      simp only [Dat] at dx dy
      subst dx dy
      refine ⟨_, rfl, _, _, false, rfl, .str i, isi_s_t K, _, rfl, iteF ?_⟩
      refine ⟨_, rfl, _, _, false, rfl, .str i, isi_s_l K, _, rfl, iteF ?_⟩
      refine ⟨_, rfl, rfl, _, rfl, iteF ?_⟩
      refine ⟨_, rfl, _, _, false, rfl, .str i, isi_s_b K, _, rfl, iteF ?_⟩
      refine ⟨_, rfl, _, _, true, rfl, .str i, isi_s_s K, _, rfl, iteT ?_⟩
      refine ⟨_, rfl, _, _, false, rfl, .str i, isi_s_b K, _, rfl, _, _, false, rfl, .str i, isi_s_b K, rfl, _, rfl, ?_⟩
      refine ite2 (fun _ => ?_) (fun z => absurd (decide_eq_true rfl) z)
      refine ⟨_, rfl, _, rfl, rfl, ?_⟩
      rw [decide_eq_true rfl]
      exact k _ (Same.refl _)
    | .bool i, pl, dx, dy =>
      simp only [Dat] at dx dy
      subst dx dy
      refine ⟨_, rfl, _, _, false, rfl, .bl i, isi_b_t K, _, rfl, iteF ?_⟩
      refine ⟨_, rfl, _, _, false, rfl, .bl i, isi_b_l K, _, rfl, iteF ?_⟩
      refine ⟨_, rfl, rfl, _, rfl, iteF ?_⟩
      refine ⟨_, rfl, _, _, true, rfl, .bl i, isi_bool_bool K, _, rfl, iteT ?_⟩
      refine iteT ?_
      refine ⟨_, rfl, _, _, true, rfl, .bl i, isi_bool_bool K, _, rfl, _, _, true, rfl, .bl i, isi_bool_bool K, rfl, _, rfl, ?_⟩
      refine ite2 (fun _ => ?_) (fun z => absurd (decide_eq_true rfl) z)
      refine ⟨_, rfl, _, rfl, rfl, ?_⟩
      rw [decide_eq_true rfl]
      exact k _ (Same.refl _)
    | .none, pl, dx, dy =>
      simp only [Dat] at dx dy
      subst dx dy
      refine ⟨_, rfl, _, _, false, rfl, .non, isi_n_t K, _, rfl, iteF ?_⟩
      refine ⟨_, rfl, _, _, false, rfl, .non, isi_n_l K, _, rfl, iteF ?_⟩
      refine ⟨_, rfl, rfl, _, rfl, iteT ?_⟩
      exact ⟨_, rfl, rfl, k _ (Same.refl _)⟩
    | .list ds, pl, dx, dy =>
      simp only [Dat] at dx dy
      obtain ⟨a, vs, rfl, ha, da⟩ := dx
      obtain ⟨b, ws, rfl, hb, db⟩ := dy
      have la : vs.length = ds.length := da.length
      have lb : ws.length = ds.length := db.length
      have pl1 : ds.length ≤ 20000 := pl.1
      refine ⟨_, rfl, _, _, false, rfl, .lst hb, isi_list_tuple K, _, rfl, iteF ?_⟩
      refine ⟨_, rfl, _, _, true, rfl, .lst hb, isi_list_list K, _, rfl, iteT ?_⟩
      refine ⟨_, rfl, _, _, false, rfl, .lst ha, isi_list_tuple K, _, rfl, _, _, false, rfl, .lst hb, isi_list_tuple K, rfl, _, rfl, ?_⟩
      refine iteNS rfl ?_
      refine ⟨_, rfl, _, _, true, rfl, .lst ha, isi_list_list K, _, rfl, _, _, true, rfl, .lst hb, isi_list_list K, rfl, _, rfl, ?_⟩
      refine iteNS rfl ?_
      refine ⟨_, rfl, a, _, rfl, .inl (SqL.of ha), _, rfl, b, _, rfl, .inl (SqL.of hb), rfl, _, rfl, ?_⟩
      refine iteNS (by rw [la, lb]) ?_
      refine ⟨_, rfl, _, rfl, a, b, vs, ws, rfl, .inl ⟨SqL.of ha, SqL.of hb, fun D hD => ?_⟩⟩
      refine comp_valZ (K := K) la lb (fun i => some (.bl true)) hD (SqL.of ha) (SqL.of hb) (by omega) (fun i x y H2 G F hx hy s2 kG kF => ?_) (fun H2 s2 e2 => ?_)
      · obtain ⟨d, ed, dx⟩ := da.get hx
        obtain ⟨d', ed', dy⟩ := db.get hy
        rw [ed] at ed'
        cases ed'
        exact ⟨_, rfl, _, rfl, x, y, d, rfl, dx.same s2 d, dy.same s2 d, pl.2 d (List.mem_of_getElem? ed), fun H3 s3 => kF _ H3 s3 rfl⟩
      · rw [fm_const'] at e2
        refine ⟨D, List.replicate ds.length true, rfl, SqL.of (by rw [e2, List.map_replicate]), ?_⟩
        rw [show (List.replicate ds.length true).all id = true by simp]
        exact k H2 s2
    | .tuple ds, pl, dx, dy =>
      simp only [Dat] at dx dy
      obtain ⟨a, vs, rfl, ha, da⟩ := dx
      obtain ⟨b, ws, rfl, hb, db⟩ := dy
      have la : vs.length = ds.length := da.length
      have lb : ws.length = ds.length := db.length
      have pl1 : ds.length ≤ 20000 := pl.1
      refine ⟨_, rfl, _, _, true, rfl, .tup hb, isi_tuple_tuple K, _, rfl, iteT ?_⟩
      refine iteT ?_
      refine ⟨_, rfl, _, _, true, rfl, .tup ha, isi_tuple_tuple K, _, rfl, _, _, true, rfl, .tup hb, isi_tuple_tuple K, rfl, _, rfl, ?_⟩
      refine iteNS rfl ?_
      refine ⟨_, rfl, _, _, false, rfl, .tup ha, isi_tuple_list K, _, rfl, _, _, false, rfl, .tup hb, isi_tuple_list K, rfl, _, rfl, ?_⟩
      refine iteNS rfl ?_
      refine ⟨_, rfl, a, _, rfl, .inr (SqT.of ha), _, rfl, b, _, rfl, .inr (SqT.of hb), rfl, _, rfl, ?_⟩
      refine iteNS (by rw [la, lb]) ?_
      refine ⟨_, rfl, _, rfl, a, b, vs, ws, rfl, .inr ⟨SqT.of ha, SqT.of hb, fun D hD => ?_⟩⟩
      refine comp_valZT (K := K) la lb (fun i => some (.bl true)) hD ha hb (by omega) (fun i x y H2 G F hx hy s2 kG kF => ?_) (fun H2 s2 e2 => ?_)
      · obtain ⟨d, ed, dx⟩ := da.get hx
        obtain ⟨d', ed', dy⟩ := db.get hy
        rw [ed] at ed'
        cases ed'
        exact ⟨_, rfl, _, rfl, x, y, d, rfl, dx.same s2 d, dy.same s2 d, pl.2 d (List.mem_of_getElem? ed), fun H3 s3 => kF _ H3 s3 rfl⟩
      · rw [fm_const'] at e2
        refine ⟨D, List.replicate ds.length true, rfl, SqL.of (by rw [e2, List.map_replicate]), ?_⟩
        rw [show (List.replicate ds.length true).all id = true by simp]
        exact k H2 s2

def touchD (ns bs : List Int) (r : Rw) : PyData := .tuple [.str (wordR r), .int (cellR r), oD (readR ns r), oD (writR bs r)]
theorem dat_oV {H : Hp} (x : Option Int) : Dat H (oV x) (oD x) := by cases x <;> simp only [oV, oD, Dat]
theorem dat_touch {H : Hp} {t : Addr} {ns bs : List Int} {r : Rw} (h : H t = some (.tup (touchV ns bs r))) : Dat H (.ref t) (touchD ns bs r) := by
  unfold touchD touchV at *
  simp only [Dat]
  exact ⟨t, _, rfl, h, by simp only [Dats, Dat, and_true, true_and]; exact ⟨dat_oV _, dat_oV _⟩⟩
theorem pl_touch {n : Nat} (ns bs : List Int) (r : Rw) : PlA (n + 2) (touchD ns bs r) := by
  refine ⟨by show 4 ≤ 20000; decide, fun d hd => ?_⟩
  have : ∀ x : Option Int, PlA (n + 1) (oD x) := fun x => by cases x <;> trivial
  simp only [List.mem_cons, List.mem_nil_iff, or_false] at hd
  rcases hd with rfl | rfl | rfl | rfl
  · trivial
  · trivial
  · exact this _
  · exact this _

/-! ### the reel beside what is tagged -/
structure RT (τ : Tg) (H : Hp) (r : Addr) : Prop where
  R : ReelP H r
  off : ∀ x o, H x = some o → τ x ≠ [] → x ≠ r ∧ Off H r x
  un : Unt τ H
theorem RT.draw {τ : Tg} {H H' : Hp} {r : Addr} (h : RT τ H r) (k : KR r H H') (R' : ReelP H' r) : RT τ H' r := by
  have un' : Unt τ H' := h.un.dom fun x e => by
    refine Kp.new k.1 e ?_
    exact R'.at
  refine ⟨R', fun x o e t => ?_, un'⟩
  cases q : H x with
  | none => exact absurd (h.un x q) t
  | some u =>
    obtain ⟨n, f⟩ := h.off x u q t
    exact ⟨n, k.2 x u q n f⟩
theorem RT.stp {τ : Tg} {H H' : Hp} {r : Addr} {i : Nat} (h : RT τ H r) (k : Stp i τ H H') : RT τ H' r := by
  obtain ⟨g, c, gs, cs, p, t, e1, e2, e3, q⟩ := h.R
  have tr : τ r = [] := by
    by_cases z : τ r = []
    · exact z
    · exact absurd rfl (h.off r _ e1 z).1
  have tg : τ g = [] := by
    by_cases z : τ g = []
    · exact z
    · exact absurd rfl ((h.off g _ e2 z).2 _ _ _ _ e1).1
  have tc : τ c = [] := by
    by_cases z : τ c = []
    · exact z
    · exact absurd rfl ((h.off c _ e3 z).2 _ _ _ _ e1).2
  have e1' := k.keep _ _ e1 (by rw [tr]; simp)
  refine ⟨⟨g, c, gs, cs, p, t, e1', k.keep _ _ e2 (by rw [tg]; simp), k.keep _ _ e3 (by rw [tc]; simp), q⟩, fun x o e t => ?_, h.un.dom k.dom⟩
  cases q : H x with
  | none => exact absurd (h.un x q) t
  | some u =>
    obtain ⟨n, f⟩ := h.off x u q t
    refine ⟨n, fun g' c' u' v' e' => ?_⟩
    rw [e1'] at e'
    cases e'
    exact f _ _ _ _ e1
theorem RT.same {τ : Tg} {H H' : Hp} {r : Addr} (h : RT τ H r) (k : Same H H') : RT τ H' r := h.stp (i := 0) (Stp.of_same k)
/-- a draw changes nothing that is tagged -/
theorem RT.kr {τ : Tg} {H H' : Hp} {r : Addr} {i : Nat} (h : RT τ H r) (k : KR r H H') : Mv i τ H τ H' := ⟨fun x o e t => ⟨k.1 _ _ e (h.off x o e (by
  rcases t with t | t
  · rw [t]; simp
  · intro z; rw [z] at t; cases t)).1, rfl⟩, h.R.tups k.1⟩
theorem RT.keep {τ : Tg} {H H' : Hp} {r x : Addr} {o : HO} (h : RT τ H r) (k : KR r H H') (e : H x = some o) (t : τ x ≠ []) : H' x = some o := k.1 _ _ e (h.off x o e t).1
theorem RT.claim {τ : Tg} {H H' : Hp} {r p : Addr} {t : List Nat} (h : RT τ H r) (k : Same H H') (hp : H p = none) (hp' : ∃ o, H' p = some o) : RT (tgSet τ p t) H' r := by
  have h' := h.same k
  refine ⟨h'.R, fun x o e n => ?_, h.un.claim k hp'⟩
  by_cases z : x = p
  · subst z
    exact ⟨h.R.ne hp, (h.R.off hp).same h.R k⟩
  · rw [tgSet_ne z] at n
    exact h'.off x o e n
/-- behind a works made -/
theorem RT.made {τ τ' : Tg} {H H' : Hp} {r : Addr} (h : RT τ H r) (k : Same H H') (tg : ∀ x u, H x = some u → τ' x = τ x) (un : Unt τ' H') : RT τ' H' r := by
  have h' := h.same k
  refine ⟨h'.R, fun x o e n => ?_, un⟩
  cases q : H x with
  | some u => exact h'.off x o e (by rw [← tg x u q]; exact n)
  | none => exact ⟨h.R.ne q, (h.R.off q).same h.R k⟩

/-! ### rows as data -/
section
variable {H : Hp} {p : Addr} {x y : V} {b c n : Nat} {e f : Exx}
theorem dat_store (h : H p = some (.tup [.str "store", .int c, x])) (d : Dat H x (exD e)) : Dat H (.ref p) (rwD (.store c e)) := by
  simp only [rwD, Dat]; exact ⟨p, _, rfl, h, by simp only [Dats, Dat, and_true, true_and]; exact d⟩
theorem dat_let (h : H p = some (.tup [.str "let", .str (bxS b), x])) (d : Dat H x (exD e)) : Dat H (.ref p) (rwD (.lett b e)) := by
  simp only [rwD, Dat]; exact ⟨p, _, rfl, h, by simp only [Dats, Dat, and_true, true_and]; exact d⟩
theorem dat_say (h : H p = some (.tup [.str "say", x])) (d : Dat H x (exD e)) : Dat H (.ref p) (rwD (.say e)) := by
  simp only [rwD, Dat]; exact ⟨p, _, rfl, h, by simp only [Dats, Dat, and_true, true_and]; exact d⟩
theorem dat_unl {q : Bool} (h : H p = some (.tup [.str "unless", .str (if q then "=" else "<"), x, y, .int n])) (d : Dat H x (exD e)) (d' : Dat H y (exD f)) : Dat H (.ref p) (rwD (.unl q e f n)) := by
  simp only [rwD, Dat]; exact ⟨p, _, rfl, h, by simp only [Dats, Dat, and_true, true_and]; exact ⟨d, d'⟩⟩
end

theorem RT.set {τ : Tg} {H : Hp} {r x : Addr} {o u : HO} (h : RT τ H r) (e : H x = some o) (t : τ x ≠ []) : RT τ (upd H x u) r := by
  obtain ⟨n, f⟩ := h.off x o e t
  refine ⟨h.R.set n f, fun y v ey ty => ?_, fun y ey => ?_⟩
  · by_cases z : y = x
    · subst z
      exact ⟨n, f.set n⟩
    · rw [upd_ne z] at ey
      obtain ⟨n', f'⟩ := h.off y v ey ty
      exact ⟨n', f'.set n⟩
  · by_cases z : y = x
    · rw [z, upd_same] at ey; cases ey
    · rw [upd_ne z] at ey; exact h.un y ey

/-! ### hands of parts: a let, sayings, a go-round, sayings, a store -/
abbrev Pt10 := Nat × Nat × Nat
def partR (o : Nat) (p : Pt10) : List Rw := (Rw.lett 0 (.one (.num 0)) :: (List.range p.1).map fun k : Nat => Rw.say (.one (.num k))) ++ ([Rw.lett 0 (.two true (.box 0) (.num 1)), Rw.unl true (.one (.box 0)) (.one (.num p.2.1)) (o + 1 + p.1)] ++ (List.replicate p.2.2 (Rw.say (.one (.box 0))) ++ [Rw.store 0 (.one (.box 0))]))
theorem partR_len (o : Nat) (p : Pt10) : (partR o p).length = p.1 + p.2.2 + 4 := by
  unfold partR
  simp
  omega
def mk10 (R : List Rw) (pos a : Nat) (sy : List Int) (st : Str) : HandS := ⟨R, pos, (a : Int) :: List.replicate 7 0, sy, st⟩
structure PtAt (R : List Rw) (o : Nat) (p : Pt10) : Prop where
  f0 : R[o]? = some (.lett 0 (.one (.num 0)))
  f1 : ∀ k : Nat, k < p.1 → R[o + 1 + k]? = some (.say (.one (.num k)))
  f2 : R[o + 1 + p.1]? = some (.lett 0 (.two true (.box 0) (.num 1)))
  f3 : R[o + 1 + p.1 + 1]? = some (.unl true (.one (.box 0)) (.one (.num p.2.1)) (o + 1 + p.1))
  f4 : ∀ k : Nat, k < p.2.2 → R[o + 1 + p.1 + 2 + k]? = some (.say (.one (.box 0)))
def rngI (n : Nat) : List Int := (List.range n).map fun k : Nat => (k : Int)
theorem rngI_succ (n : Nat) : rngI (n + 1) = rngI n ++ [(n : Int)] := by unfold rngI; rw [List.range_succ, List.map_append]; rfl
section
variable {R : List Rw} {o : Nat} {p : Pt10} {st : Str}
theorem led_step {n : Nat} {s : HandS} {r : Rw} (h : s.rws[s.pos]? = some r) (t : touch r = false) : led (n + 1) s = led n (doRow s r) := by
  rw [led]
  simp only [h, t, Bool.false_eq_true, if_false]
theorem led_lost {s : HandS} {r : Rw} (h : s.rws[s.pos]? = some r) (t : touch r = false) : led 0 s = { s with st := "lost" } := by
  rw [led]
  simp only [h, t, Bool.false_eq_true, if_false]
theorem ledA (P : PtAt R o p) (n a : Nat) (sy : List Int) : led (n + 1) (mk10 R o a sy st) = led n (mk10 R (o + 1) 0 sy st) := by
  rw [led_step (s := mk10 R o a sy st) P.f0 rfl]
  rfl
theorem ledB (P : PtAt R o p) (h : p.1 ≤ 900) (n : Nat) (sy : List Int) : ∀ d j : Nat, j + d = p.1 → led (n + d) (mk10 R (o + 1 + j) 0 (sy ++ rngI j) st) = led n (mk10 R (o + 1 + p.1) 0 (sy ++ rngI p.1) st)
  | 0, j, e => by
    have : j = p.1 := by omega
    rw [this]; rfl
  | d + 1, j, e => by
    have ih := ledB P h n sy d (j + 1) (by omega)
    rw [← Nat.add_assoc n d 1, led_step (s := mk10 R (o + 1 + j) 0 (sy ++ rngI j) st) (P.f1 j (by omega)) rfl, ← ih]
    have : doRow (mk10 R (o + 1 + j) 0 (sy ++ rngI j) st) (.say (.one (.num j))) = mk10 R (o + 1 + (j + 1)) 0 (sy ++ rngI (j + 1)) st := by
      show (⟨R, o + 1 + j + 1, _, sy ++ rngI j ++ [((j : Nat) : Int) % 1000], st⟩ : HandS) = _
      rw [Int.emod_eq_of_lt (by omega) (by omega), rngI_succ, List.append_assoc]
      rfl
    rw [this]
theorem ledC1 (P : PtAt R o p) (n j : Nat) (hj : j + 1 < 1000) (sy : List Int) : led (n + 1) (mk10 R (o + 1 + p.1) j sy st) = led n (mk10 R (o + 1 + p.1 + 1) (j + 1) sy st) := by
  rw [led_step (s := mk10 R (o + 1 + p.1) j sy st) P.f2 rfl]
  have : doRow (mk10 R (o + 1 + p.1) j sy st) (.lett 0 (.two true (.box 0) (.num 1))) = mk10 R (o + 1 + p.1 + 1) (j + 1) sy st := by
    show (⟨R, o + 1 + p.1 + 1, ((j : Int) :: List.replicate 7 0).set 0 (((j : Int) + 1 % 1000) % 1000), sy, st⟩ : HandS) = _
    rw [show ((j : Int) + 1 % 1000) % 1000 = ((j + 1 : Nat) : Int) by omega]
    rfl
  rw [this]
theorem ledC2 (P : PtAt R o p) (n j : Nat) (ht : p.2.1 < 1000) (sy : List Int) : led (n + 1) (mk10 R (o + 1 + p.1 + 1) j sy st) = led n (mk10 R (if j = p.2.1 then o + 1 + p.1 + 2 else o + 1 + p.1) j sy st) := by
  rw [led_step (s := mk10 R (o + 1 + p.1 + 1) j sy st) P.f3 rfl]
  have : doRow (mk10 R (o + 1 + p.1 + 1) j sy st) (.unl true (.one (.box 0)) (.one (.num p.2.1)) (o + 1 + p.1)) = mk10 R (if j = p.2.1 then o + 1 + p.1 + 2 else o + 1 + p.1) j sy st := by
    show (⟨R, if decide ((j : Int) = (p.2.1 : Int) % 1000) then o + 1 + p.1 + 1 + 1 else o + 1 + p.1, _, sy, st⟩ : HandS) = _
    by_cases e : j = p.2.1
    · rw [if_pos e, if_pos (decide_eq_true (by omega))]; rfl
    · rw [if_neg e, if_neg (by rw [decide_eq_true_iff]; omega)]; rfl
  rw [this]
theorem ledC (P : PtAt R o p) (ht : p.2.1 < 999) (sy : List Int) : ∀ (n j : Nat), j < p.2.1 →
    (2 * (p.2.1 - j) ≤ n → led n (mk10 R (o + 1 + p.1) j sy st) = led (n - 2 * (p.2.1 - j)) (mk10 R (o + 1 + p.1 + 2) p.2.1 sy st)) ∧ (n < 2 * (p.2.1 - j) → ∃ q, led n (mk10 R (o + 1 + p.1) j sy st) = mk10 R q (j + (n + 1) / 2) sy "lost")
  | 0, j, hj => ⟨fun z => by omega, fun _ => ⟨_, by rw [led_lost (s := mk10 R (o + 1 + p.1) j sy st) P.f2 rfl]; rfl⟩⟩
  | 1, j, hj => ⟨fun z => by omega, fun _ => ⟨_, by rw [ledC1 P 0 j (by omega), led_lost (s := mk10 R (o + 1 + p.1 + 1) (j + 1) sy st) P.f3 rfl]; rfl⟩⟩
  | n + 2, j, hj => by
    rw [ledC1 P (n + 1) j (by omega), ledC2 P n (j + 1) (by omega)]
    by_cases e : j + 1 = p.2.1
    · rw [if_pos e]
      refine ⟨fun _ => ?_, fun z => by omega⟩
      rw [e, show n + 2 - 2 * (p.2.1 - j) = n by omega]
    · rw [if_neg e]
      obtain ⟨h1, h2⟩ := ledC P ht sy n (j + 1) (by omega)
      refine ⟨fun z => ?_, fun z => ?_⟩
      · rw [h1 (by omega), show n - 2 * (p.2.1 - (j + 1)) = n + 2 - 2 * (p.2.1 - j) by omega]
      · obtain ⟨q, hq⟩ := h2 (by omega)
        exact ⟨q, by rw [hq, show j + 1 + (n + 1) / 2 = j + (n + 2 + 1) / 2 by omega]⟩
theorem ledD (P : PtAt R o p) (sy : List Int) : ∀ (d n j : Nat), j + d = p.2.2 →
    (d ≤ n → led n (mk10 R (o + 1 + p.1 + 2 + j) p.2.1 sy st) = led (n - d) (mk10 R (o + 1 + p.1 + 2 + p.2.2) p.2.1 (sy ++ List.replicate d (p.2.1 : Int)) st)) ∧ (n < d → ∃ q, led n (mk10 R (o + 1 + p.1 + 2 + j) p.2.1 sy st) = mk10 R q p.2.1 (sy ++ List.replicate n (p.2.1 : Int)) "lost")
  | 0, n, j, e => ⟨fun _ => by
      have : j = p.2.2 := by omega
      rw [this]; simp, fun z => by omega⟩
  | d + 1, 0, j, e => ⟨fun z => by omega, fun _ => ⟨_, by rw [led_lost (s := mk10 R (o + 1 + p.1 + 2 + j) p.2.1 sy st) (P.f4 j (by omega)) rfl, List.replicate_zero, List.append_nil]; rfl⟩⟩
  | d + 1, n + 1, j, e => by
    have step : led (n + 1) (mk10 R (o + 1 + p.1 + 2 + j) p.2.1 sy st) = led n (mk10 R (o + 1 + p.1 + 2 + (j + 1)) p.2.1 (sy ++ [(p.2.1 : Int)]) st) := by
      rw [led_step (s := mk10 R (o + 1 + p.1 + 2 + j) p.2.1 sy st) (P.f4 j (by omega)) rfl]
      rfl
    rw [step]
    obtain ⟨h1, h2⟩ := ledD P (sy ++ [(p.2.1 : Int)]) d n (j + 1) (by omega)
    refine ⟨fun z => ?_, fun z => ?_⟩
    · rw [h1 (by omega), List.append_assoc, show n + 1 - (d + 1) = n - d by omega]
      rfl
    · obtain ⟨q, hq⟩ := h2 (by omega)
      exact ⟨q, by rw [hq, List.append_assoc]; rfl⟩
def all10 (p : Pt10) : Nat := 1 + p.1 + 2 * p.2.1 + p.2.2
def gone10 (p : Pt10) : Nat := min 60 (all10 p)
def box10 (p : Pt10) : Nat := min p.2.1 ((gone10 p - p.1) / 2)
def say10 (p : Pt10) : List Int := rngI p.1 ++ List.replicate (gone10 p - 1 - p.1 - 2 * p.2.1) (p.2.1 : Int)
def ok10 (p : Pt10) : Prop := p.1 ≤ 6 ∧ 0 < p.2.1 ∧ p.2.1 ≤ 40 ∧ p.2.2 ≤ 6
theorem lead10 (P : PtAt R o p) (ok : ok10 p) (a : Nat) (sy : List Int) :
    (all10 p ≤ 60 → lead (mk10 R o a sy st) = led (60 - all10 p) (mk10 R (o + 1 + p.1 + 2 + p.2.2) (box10 p) (sy ++ say10 p) st)) ∧ (60 < all10 p → ∃ q, lead (mk10 R o a sy st) = mk10 R q (box10 p) (sy ++ say10 p) "lost") := by
  obtain ⟨o1, o2, o3, o4⟩ := ok
  have s1 : lead (mk10 R o a sy st) = led (59 - p.1) (mk10 R (o + 1 + p.1) 0 (sy ++ rngI p.1) st) := by
    unfold lead
    rw [show (60 : Nat) = 59 + 1 from rfl, ledA P, show (59 : Nat) = 59 - p.1 + p.1 by omega]
    have := ledB P (by omega) (59 - p.1) sy p.1 0 (by omega) (st := st)
    simpa [rngI] using this
  obtain ⟨c1, c2⟩ := ledC (st := st) P (by omega) (sy ++ rngI p.1) (59 - p.1) 0 o2
  unfold box10 say10 gone10
  unfold all10
  refine ⟨fun h => ?_, fun h => ?_⟩
  · rw [s1, c1 (by omega)]
    obtain ⟨d1, _⟩ := ledD (st := st) P (sy ++ rngI p.1) p.2.2 (59 - p.1 - 2 * (p.2.1 - 0)) 0 (by omega)
    have e1 : min 60 (1 + p.1 + 2 * p.2.1 + p.2.2) = 1 + p.1 + 2 * p.2.1 + p.2.2 := by omega
    have d1' := d1 (by omega)
    rw [Nat.add_zero] at d1'
    rw [d1', e1, show 59 - p.1 - 2 * (p.2.1 - 0) - p.2.2 = 60 - (1 + p.1 + 2 * p.2.1 + p.2.2) by omega, show 1 + p.1 + 2 * p.2.1 + p.2.2 - 1 - p.1 - 2 * p.2.1 = p.2.2 by omega, show min p.2.1 ((1 + p.1 + 2 * p.2.1 + p.2.2 - p.1) / 2) = p.2.1 by omega, List.append_assoc]
  · have e1 : min 60 (1 + p.1 + 2 * p.2.1 + p.2.2) = 60 := by omega
    rw [e1, s1]
    by_cases z : 59 - p.1 < 2 * (p.2.1 - 0)
    · obtain ⟨q, hq⟩ := c2 z
      refine ⟨q, ?_⟩
      rw [hq, show 0 + (59 - p.1 + 1) / 2 = min p.2.1 ((60 - p.1) / 2) by omega, show 60 - 1 - p.1 - 2 * p.2.1 = 0 by omega, List.replicate_zero, List.append_nil]
    · rw [c1 (by omega)]
      obtain ⟨_, d2⟩ := ledD (st := st) P (sy ++ rngI p.1) p.2.2 (59 - p.1 - 2 * (p.2.1 - 0)) 0 (by omega)
      rw [Nat.add_zero] at d2
      obtain ⟨q, hq⟩ := d2 (by omega)
      refine ⟨q, ?_⟩
      rw [hq, show min p.2.1 ((60 - p.1) / 2) = p.2.1 by omega, show 60 - 1 - p.1 - 2 * p.2.1 = 59 - p.1 - 2 * (p.2.1 - 0) by omega, List.append_assoc]
end
/-! all rows of a hand -/
def rowsF : Nat → List Pt10 → List Rw
  | _, [] => []
  | o, p :: ps => partR o p ++ rowsF (o + (p.1 + p.2.2 + 4)) ps
def lenP : List Pt10 → Nat
  | [] => 0
  | p :: ps => (p.1 + p.2.2 + 4) + lenP ps
def rows10 (ps : List Pt10) : List Rw := rowsF 0 ps
theorem rowsF_len : ∀ (o : Nat) (ps : List Pt10), (rowsF o ps).length = lenP ps
  | _, [] => rfl
  | o, p :: ps => by unfold rowsF lenP; rw [List.length_append, rowsF_len, partR_len]
theorem rowsF_app : ∀ (o : Nat) (l1 l2 : List Pt10), rowsF o (l1 ++ l2) = rowsF o l1 ++ rowsF (o + lenP l1) l2
  | o, [], l2 => by simp [rowsF, lenP]
  | o, p :: l1, l2 => by
    rw [List.cons_append, rowsF, rowsF, lenP, rowsF_app, List.append_assoc, Nat.add_assoc o]
theorem rows10_snoc (ps : List Pt10) (p : Pt10) : rows10 (ps ++ [p]) = rows10 ps ++ partR (rows10 ps).length p := by
  unfold rows10
  rw [rowsF_app, rowsF_len, Nat.zero_add]
  simp [rowsF]
def lastR (ps : List Pt10) (last : Bool) : List Rw := if last then rows10 ps else (rows10 ps).dropLast
theorem getE_drop {l : List Rw} {i : Nat} (h : i + 1 < l.length) : l.dropLast[i]? = l[i]? := by
  rw [List.dropLast_eq_take, List.getElem?_take, if_pos (by omega)]
theorem lenP_app : ∀ (l1 l2 : List Pt10), lenP (l1 ++ l2) = lenP l1 + lenP l2
  | [], l2 => by simp [lenP]
  | p :: l1, l2 => by rw [List.cons_append, lenP, lenP, lenP_app]; omega
/-- a part within the rows -/
theorem part_at {ps : List Pt10} {last : Bool} {k : Nat} {p : Pt10} (e : ps[k]? = some p) (i : Nat) (hi : i < p.1 + p.2.2 + 4) : (rows10 ps)[lenP (ps.take k) + i]? = (partR (lenP (ps.take k)) p)[i]? ∧ lenP (ps.take k) + (p.1 + p.2.2 + 4) ≤ lenP ps ∧ (lenP (ps.take k) + (p.1 + p.2.2 + 4) = lenP ps ↔ k + 1 = ps.length) := by
  obtain ⟨kl, rfl⟩ := List.getElem?_eq_some_iff.mp e
  have sp : ps = ps.take k ++ ps[k] :: ps.drop (k + 1) := by rw [← List.drop_eq_getElem_cons kl, List.take_append_drop]
  have e1 : rows10 ps = rowsF 0 (ps.take k) ++ (partR (lenP (ps.take k)) ps[k] ++ rowsF (lenP (ps.take k) + (ps[k].1 + ps[k].2.2 + 4)) (ps.drop (k + 1))) := by
    unfold rows10
    conv => lhs; rw [sp]
    rw [rowsF_app, Nat.zero_add, rowsF]
  have e2 : lenP ps = lenP (ps.take k) + ((ps[k].1 + ps[k].2.2 + 4) + lenP (ps.drop (k + 1))) := by
    conv => lhs; rw [sp]
    rw [lenP_app, lenP]
  refine ⟨?_, by omega, ?_⟩
  · rw [e1, List.getElem?_append_right (by rw [rowsF_len]; omega), rowsF_len, List.getElem?_append_left (by rw [partR_len]; omega)]
    congr 1
    omega
  · have : lenP (ps.drop (k + 1)) = 0 ↔ k + 1 = ps.length := by
      constructor
      · intro z
        cases h : ps.drop (k + 1) with
        | nil => have := List.drop_eq_nil_iff.mp h; omega
        | cons q r => rw [h, lenP] at z; omega
      · intro z
        rw [List.drop_eq_nil_of_le (by omega)]; rfl
    rw [← this]
    omega
theorem partR_get {o : Nat} {p : Pt10} : (partR o p)[0]? = some (.lett 0 (.one (.num 0))) ∧ (∀ k : Nat, k < p.1 → (partR o p)[1 + k]? = some (.say (.one (.num k)))) ∧ (partR o p)[1 + p.1]? = some (.lett 0 (.two true (.box 0) (.num 1))) ∧ (partR o p)[1 + p.1 + 1]? = some (.unl true (.one (.box 0)) (.one (.num p.2.1)) (o + 1 + p.1)) ∧ (∀ k : Nat, k < p.2.2 → (partR o p)[1 + p.1 + 2 + k]? = some (.say (.one (.box 0)))) ∧ (partR o p)[1 + p.1 + 2 + p.2.2]? = some (.store 0 (.one (.box 0))) := by
  unfold partR
  have l1 : (Rw.lett 0 (.one (.num 0)) :: (List.range p.1).map fun k : Nat => Rw.say (.one (.num k))).length = 1 + p.1 := by simp; omega
  refine ⟨by simp, fun k hk => ?_, ?_, ?_, fun k hk => ?_, ?_⟩
  · rw [List.getElem?_append_left (by rw [l1]; omega), Nat.add_comm 1 k, List.getElem?_cons_succ]
    simp [hk]
  · rw [List.getElem?_append_right (by rw [l1]; omega), l1, Nat.sub_self]
    rfl
  · rw [List.getElem?_append_right (by rw [l1]; omega), l1, show 1 + p.1 + 1 - (1 + p.1) = 1 by omega]
    rfl
  · rw [List.getElem?_append_right (by rw [l1]; omega), l1, show 1 + p.1 + 2 + k - (1 + p.1) = 2 + k by omega, List.getElem?_append_right (by simp), show 2 + k - [Rw.lett 0 (.two true (.box 0) (.num 1)), Rw.unl true (.one (.box 0)) (.one (.num p.2.1)) (o + 1 + p.1)].length = k by simp, List.getElem?_append_left (by simpa using hk)]
    simp [hk]
  · rw [List.getElem?_append_right (by rw [l1]; omega), l1, show 1 + p.1 + 2 + p.2.2 - (1 + p.1) = 2 + p.2.2 by omega, List.getElem?_append_right (by simp), show 2 + p.2.2 - [Rw.lett 0 (.two true (.box 0) (.num 1)), Rw.unl true (.one (.box 0)) (.one (.num p.2.1)) (o + 1 + p.1)].length = p.2.2 by simp, List.getElem?_append_right (by simp)]
    simp
theorem last_len (ps : List Pt10) (last : Bool) : (lastR ps last).length = if last then lenP ps else lenP ps - 1 := by
  unfold lastR
  cases last with
  | true => simp [rows10, rowsF_len]
  | false => simp [rows10, rowsF_len]
theorem ptAt {ps : List Pt10} {last : Bool} {k : Nat} {p : Pt10} (e : ps[k]? = some p) : PtAt (lastR ps last) (lenP (ps.take k)) p ∧ (lastR ps last)[lenP (ps.take k) + 1 + p.1 + 2 + p.2.2]? = if last || decide (k + 1 < ps.length) then some (.store 0 (.one (.box 0))) else none := by
  have kl := (List.getElem?_eq_some_iff.mp e).1
  have g : ∀ i, i < p.1 + p.2.2 + 3 → (lastR ps last)[lenP (ps.take k) + i]? = (partR (lenP (ps.take k)) p)[i]? := fun i hi => by
    obtain ⟨h1, h2, _⟩ := part_at (last := last) e i (by omega)
    rw [← h1]
    unfold lastR
    cases last with
    | true => rfl
    | false => exact getE_drop (by unfold rows10; rw [rowsF_len]; omega)
  obtain ⟨q0, q1, q2, q3, q4, q5⟩ := partR_get (o := lenP (ps.take k)) (p := p)
  refine ⟨⟨?_, fun j hj => ?_, ?_, ?_, fun j hj => ?_⟩, ?_⟩
  · rw [← q0, ← g 0 (by omega)]; rfl
  · rw [← q1 j hj, ← g _ (by omega)]; congr 1; omega
  · rw [← q2, ← g _ (by omega)]; congr 1; omega
  · rw [← q3, ← g _ (by omega)]; congr 1; omega
  · rw [← q4 j hj, ← g _ (by omega)]; congr 1; omega
  · obtain ⟨h1, h2, h3⟩ := part_at (last := last) e (1 + p.1 + 2 + p.2.2) (by omega)
    rw [q5] at h1
    rw [show lenP (ps.take k) + 1 + p.1 + 2 + p.2.2 = lenP (ps.take k) + (1 + p.1 + 2 + p.2.2) by omega]
    cases last with
    | true => simp only [Bool.true_or, if_true]; exact h1
    | false =>
      simp only [Bool.false_or]
      by_cases z : k + 1 < ps.length
      · rw [if_pos (decide_eq_true z)]
        refine (getE_drop ?_).trans h1
        have : ¬ k + 1 = ps.length := by omega
        rw [← h3] at this
        unfold rows10
        rw [rowsF_len]
        omega
      · rw [if_neg (by rw [decide_eq_true_iff]; exact z)]
        rw [List.getElem?_eq_none_iff, last_len]
        have : k + 1 = ps.length := by omega
        rw [← h3] at this
        simp only [Bool.false_eq_true, if_false]
        omega
/-! a hand, as the law tells it -/
structure L10 where
  (ps : List Pt10) (last : Bool) (n a : Nat) (sy : List Int) (st : Str)
def led10 (L : L10) : L10 := match L.ps[L.n]? with
  | none => { L with st := "ends" }
  | some p => { L with a := box10 p, sy := L.sy ++ say10 p, st := if 60 < all10 p then "lost" else if L.last || decide (L.n + 1 < L.ps.length) then "waits" else "ends" }
structure Is10 (L : L10) (s : HandS) : Prop where
  rws : s.rws = lastR L.ps L.last
  bs : s.bs = (L.a : Int) :: List.replicate 7 0
  sy : s.sy = L.sy
  st : s.st = L.st
  wt : L.st = "waits" → ∃ p, L.ps[L.n]? = some p ∧ s.pos = lenP (L.ps.take L.n) + 1 + p.1 + 2 + p.2.2 ∧ s.rws[s.pos]? = some (.store 0 (.one (.box 0)))
def okL (L : L10) : Prop := (∀ p ∈ L.ps, ok10 p) ∧ L.n ≤ L.ps.length ∧ (L.n = L.ps.length → L.last = true)
theorem is_led {L : L10} {s : HandS} (h1 : s.rws = lastR L.ps L.last) (h2 : s.bs = (L.a : Int) :: List.replicate 7 0) (h3 : s.sy = L.sy) (h4 : s.pos = lenP (L.ps.take L.n)) (ok : okL L) : Is10 (led10 L) (lead s) := by
  have es : s = mk10 (lastR L.ps L.last) (lenP (L.ps.take L.n)) L.a L.sy s.st := by
    obtain ⟨r, q, b, y, t⟩ := s
    simp only at h1 h2 h3 h4
    subst h1 h2 h3 h4
    rfl
  cases e : L.ps[L.n]? with
  | none =>
    have ge := List.getElem?_eq_none_iff.mp e
    have en : L.n = L.ps.length := by have := ok.2.1; omega
    have er : s.rws[s.pos]? = none := by
      rw [h1, h4, List.getElem?_eq_none_iff, last_len, ok.2.2 en, en, List.take_length]
      simp
    have : lead s = { s with st := "ends" } := by unfold lead; rw [show (60 : Nat) = 59 + 1 from rfl, led, er]
    rw [this]
    have e1 : led10 L = { L with st := "ends" } := by unfold led10; rw [e]
    rw [e1]
    exact ⟨h1, h2, h3, rfl, fun z => absurd z ends_ne⟩
  | some p =>
    obtain ⟨P, store⟩ := ptAt (last := L.last) e
    have okp := ok.1 p (List.mem_of_getElem? e)
    obtain ⟨a1, a2⟩ := lead10 (st := s.st) P okp L.a L.sy
    have e1 : led10 L = { L with a := box10 p, sy := L.sy ++ say10 p, st := if 60 < all10 p then "lost" else if L.last || decide (L.n + 1 < L.ps.length) then "waits" else "ends" } := by unfold led10; rw [e]
    rw [e1]
    by_cases big : 60 < all10 p
    · obtain ⟨q, hq⟩ := a2 big
      rw [es, hq]
      simp only [if_pos big]
      exact ⟨rfl, rfl, rfl, rfl, fun z => absurd z lost_ne⟩
    · rw [es, a1 (by omega)]
      simp only [if_neg big]
      by_cases more : (L.last || decide (L.n + 1 < L.ps.length)) = true
      · rw [if_pos more] at store ⊢
        have : led (60 - all10 p) (mk10 (lastR L.ps L.last) (lenP (L.ps.take L.n) + 1 + p.1 + 2 + p.2.2) (box10 p) (L.sy ++ say10 p) s.st) = mk10 (lastR L.ps L.last) (lenP (L.ps.take L.n) + 1 + p.1 + 2 + p.2.2) (box10 p) (L.sy ++ say10 p) "waits" := by
          generalize 60 - all10 p = n
          cases n with
          | zero => rw [led]; simp only [mk10, store]; rfl
          | succ n => rw [led]; simp only [mk10, store]; rfl
        rw [this]
        exact ⟨rfl, rfl, rfl, rfl, fun _ => ⟨p, e, rfl, store⟩⟩
      · rw [if_neg more] at store ⊢
        have : led (60 - all10 p) (mk10 (lastR L.ps L.last) (lenP (L.ps.take L.n) + 1 + p.1 + 2 + p.2.2) (box10 p) (L.sy ++ say10 p) s.st) = mk10 (lastR L.ps L.last) (lenP (L.ps.take L.n) + 1 + p.1 + 2 + p.2.2) (box10 p) (L.sy ++ say10 p) "ends" := by
          generalize 60 - all10 p = n
          cases n with
          | zero => rw [led]; simp only [mk10, store]
          | succ n => rw [led]; simp only [mk10, store]
        rw [this]
        exact ⟨rfl, rfl, rfl, rfl, fun z => absurd z ends_ne⟩
theorem is_new {L : L10} (ok : okL L) (h0 : L.n = 0) (ha : L.a = 0) (hy : L.sy = []) : Is10 (led10 L) (lead (new (lastR L.ps L.last))) := is_led rfl (by rw [ha]; rfl) hy.symm (by rw [h0]; rfl) ok
theorem is_gone {L : L10} {s : HandS} {ns : List Int} (h : Is10 L s) (w : L.st = "waits") (ok : okL L) (ok' : okL { L with n := L.n + 1 }) : Is10 (led10 { L with n := L.n + 1 }) (goneS ns s (.store 0 (.one (.box 0)))) := by
  obtain ⟨p, e, hp, _⟩ := h.wt w
  refine is_led (L := { L with n := L.n + 1 }) h.rws h.bs h.sy ?_ ok'
  show s.pos + 1 = lenP (L.ps.take (L.n + 1))
  rw [hp, List.take_succ, e, lenP_app]
  show _ = lenP (L.ps.take L.n) + lenP [p]
  unfold lenP
  unfold lenP
  omega
theorem ok_next {L : L10} {s : HandS} (h : Is10 (led10 L) s) (w : (led10 L).st = "waits") (ok : okL L) : okL { led10 L with n := L.n + 1 } := by
  cases e : L.ps[L.n]? with
  | none =>
    have e1 : led10 L = { L with st := "ends" } := by unfold led10; rw [e]
    rw [e1] at w
    exact absurd w ends_ne
  | some p =>
    have kl := (List.getElem?_eq_some_iff.mp e).1
    have e1 : led10 L = { L with a := box10 p, sy := L.sy ++ say10 p, st := if 60 < all10 p then "lost" else if L.last || decide (L.n + 1 < L.ps.length) then "waits" else "ends" } := by unfold led10; rw [e]
    rw [e1] at w ⊢
    refine ⟨ok.1, kl, fun z => ?_⟩
    have z : L.n + 1 = L.ps.length := z
    simp only at w
    split at w
    · exact absurd w lost_ne
    · split at w
      · rename_i hh
        rw [decide_eq_false (by omega), Bool.or_false] at hh
        exact hh
      · exact absurd w ends_ne

theorem dat_x1 {H : Hp} {p : Addr} {x : Ex1} (h : H p = some (.tup (match x with | .num n => [.str "number", .int n] | .box b => [.str "box", .str (bxS b)]))) : Dat H (.ref p) (x1D x) := by
  cases x <;> simp only [x1D, Dat] <;> refine ⟨p, _, rfl, h, ?_⟩ <;> simp only [Dats, Dat, and_true]

theorem dat_two {H : Hp} {p : Addr} {a b : V} {q : Bool} {x y : Ex1} (h : H p = some (.tup [.str (if q then "plus" else "minus"), a, b])) (da : Dat H a (x1D x)) (db : Dat H b (x1D y)) : Dat H (.ref p) (exD (.two q x y)) := by
  simp only [exD, Dat]
  refine ⟨p, _, rfl, h, ?_⟩
  simp only [Dats, Dat, and_true]
  exact ⟨trivial, da, db⟩

def spPart (K : PySem.W.Frag) : Sp := fun vs H Q _ => ∃ r : Addr, vs = [.ref r] ∧ ReelP H r ∧ ∀ (t : Addr) (p : Pt10) (H' : Hp), H' t = some (.tup [.int p.1, .int p.2.1, .int p.2.2]) → ok10 p → ReelP H' r → KR r H H' → Q (.ref t) H'
theorem ok_part {f : Addr} {fd : FuncData} (F : Fun K "_law_part" "_law_part" s_Lpart f fd) (F_Ldraw : FnAt P w K mg base 1 "_law_draw" ["reel", "many"] (spDrawP K)) : FnOk P w K mg base CX0 2 f fd ["reel"] (spPart K) := by
  refine F.ok sc_Lpart (fun vs H Q E h => ?_) (fun cdv A outer s H vs Q E hr h => ?_)
  · obtain ⟨r, rfl, _⟩ := h
    rfl
  · obtain ⟨r, rfl, R, k⟩ := h
    refine ⟨_, (pss_cons (ps_set (i := 1) sc_Lpart.nd rfl (Or.inl rfl) (pe_fn F_Ldraw (hr.mono (by decide)) (by rfl) (pa_cons (pv 0) (pa_cons pe_int pa_nil))))
      (pss_cons (ps_set (i := 2) sc_Lpart.nd rfl (Or.inl rfl) (pe_fn F_Ldraw (hr.mono (by decide)) (by rfl) (pa_cons (pv 0) (pa_cons pe_int pa_nil))))
      (pss_cons (ps_set (i := 3) sc_Lpart.nd rfl (Or.inl rfl) (pe_fn F_Ldraw (hr.mono (by decide)) (by rfl) (pa_cons (pv 0) (pa_cons pe_int pa_nil))))
      (pss_cons (ps_if (pt_cmpR op_eq (pv 1) pe_int (nomark _)) (pss_one (ps_ret (pe_tup (pa_cons (pv 2) (pa_cons (pe_op op_add (pe_op op_fdivB (pe_op op_sub (pe_op op_sub pe_int (pv 2)) (pv 3)) pe_int) (pe_fn F_Ldraw (hr.mono (by decide)) (by rfl) (pa_cons (pv 0) (pa_cons pe_int pa_nil)))) (pa_cons (pv 3) pa_nil)))))) pss_nil)
      (pss_one (ps_ret (pe_tup (pa_cons (pv 2) (pa_cons (pe_op op_add pe_int (pe_fn F_Ldraw (hr.mono (by decide)) (by rfl) (pa_cons (pv 0) (pa_cons pe_int pa_nil)))) (pa_cons (pv 3) pa_nil)))))))))), ?_⟩
    refine ⟨_, rfl, r, 2, rfl, R, by decide, by decide, fun nr H1 nr0 nr1 R1 k1 => ?_⟩
    refine ⟨_, rfl, r, 7, rfl, R1, by decide, by decide, fun ah H2 a0 a1 R2 k2 => ?_⟩
    refine ⟨_, rfl, r, 7, rfl, R2, by decide, by decide, fun bh H3 b0 b1 R3 k3 => ?_⟩
    have K3 := (k1.trans k2).trans k3
    obtain ⟨ah, rfl⟩ := Int.eq_ofNat_of_zero_le a0
    obtain ⟨bh, rfl⟩ := Int.eq_ofNat_of_zero_le b0
    have fin : ∀ (t : Int) (H4 : Hp) (p : Addr), 0 < t → t ≤ 40 → ReelP H4 r → KR r H H4 → H4 p = none → Q (.ref p) (upd H4 p (.tup [.int ah, .int t, .int bh])) := fun t H4 p t0 t1 R4 k4 hp => by
      obtain ⟨t, rfl⟩ := Int.eq_ofNat_of_zero_le (Int.le_of_lt t0)
      have sp := same_new (o := HO.tup [V.int ah, V.int t, V.int bh]) hp
      exact k p (ah, t, bh) _ upd_same ⟨by show ah ≤ 6; omega, by show 0 < t; omega, by show t ≤ 40; omega, by show bh ≤ 6; omega⟩ (R4.keep sp) (k4.trans (KR.same R4 sp))
    refine ⟨_, rfl, rfl, _, rfl, ?_⟩
    refine ite2 (fun _ => ?_) (fun _ => ?_)
    · refine ⟨_, rfl, _, rfl, _, _, rfl, rfl, _, rfl, _, _, rfl, rfl, _, _, rfl, rfl, ⟨by decide, by decide⟩, _, rfl, r, 3, rfl, R3, by decide, by decide, fun z H4 z0 z1 R4 k4 => ⟨_, _, rfl, rfl, _, rfl, (by show 3 ≤ sizeLine; decide), fun p hp => ?_⟩⟩
      exact fin _ H4 p (by omega) (by omega) R4 (K3.trans k4) hp
    · refine ⟨_, rfl, _, rfl, r, 40, rfl, R3, by decide, by decide, fun z H4 z0 z1 R4 k4 => ⟨_, _, rfl, rfl, _, rfl, (by show 3 ≤ sizeLine; decide), fun p hp => ?_⟩⟩
      exact fin _ H4 p (by omega) (by omega) R4 (K3.trans k4) hp
/-- rows in a list -/
def RL (H : Hp) (a : Addr) (rws : List Rw) : Prop := ∃ refs, H a = some (.lst refs) ∧ Dats H refs (rws.map rwD)
theorem RL.snoc {H : Hp} {a : Addr} {refs : List V} {rws : List Rw} {v : V} {r : Rw} (e : H a = some (.lst refs)) (d : Dats H refs (rws.map rwD)) (dv : Dat H v (rwD r)) : RL (upd H a (.lst (refs ++ [v]))) a (rws ++ [r]) := by
  have tu : ∀ x ys, H x = some (.tup ys) → (upd H a (.lst (refs ++ [v]))) x = some (.tup ys) := fun x ys q => by rw [upd_ne (ne_of q e (by intro z; cases z))]; exact q
  refine ⟨_, upd_same, ?_⟩
  rw [List.map_append]
  exact dats_snoc (d.kp tu) (dv.keep tu _ (imm_rw r))
def PsAt (H : Hp) (l : Addr) (ps : List Pt10) : Prop := ∃ ts : List Addr, H l = some (.lst (ts.map V.ref)) ∧ ts.length = ps.length ∧ ∀ (k : Nat) (t : Addr) (p : Pt10), ts[k]? = some t → ps[k]? = some p → H t = some (.tup [.int p.1, .int p.2.1, .int p.2.2])
theorem PsAt.keep {H H' : Hp} {l : Addr} {ps : List Pt10} (h : PsAt H l ps) (k : ∀ o, H l = some o → H' l = some o) (t : ∀ x xs, H x = some (.tup xs) → H' x = some (.tup xs)) : PsAt H' l ps := by
  obtain ⟨ts, e, ll, g⟩ := h
  exact ⟨ts, k _ e, ll, fun k' t' p e1 e2 => t _ _ (g k' t' p e1 e2)⟩
theorem lenP_le : ∀ {ps : List Pt10}, (∀ p ∈ ps, ok10 p) → lenP ps ≤ 16 * ps.length
  | [], _ => Nat.le_refl _
  | p :: ps, h => by
    have := lenP_le (ps := ps) fun q hq => h q (by simp [hq])
    obtain ⟨a, b, c, d⟩ := h p (by simp)
    rw [lenP, List.length_cons]
    omega
theorem rows10_ok : ∀ (o : Nat) (ps : List Pt10), (∀ p ∈ ps, ok10 p) → ∀ r ∈ rowsF o ps, rwOk 1 r
  | _, [], _, r, hr => by simp [rowsF] at hr
  | o, p :: ps, h, r, hr => by
    obtain ⟨a, b, c, d⟩ := h p (by simp)
    rw [rowsF] at hr
    rcases List.mem_append.mp hr with hr | hr
    · unfold partR at hr
      simp only [List.mem_append, List.mem_cons, List.mem_map, List.mem_range, List.mem_replicate, List.mem_nil_iff, or_false] at hr
      have b0 : x1Ok (.box 0) := by show (0 : Nat) < 8; decide
      have nk : ∀ k : Nat, k ≤ 40 → x1Ok (.num (k : Int)) := fun k hk => ⟨by omega, by omega⟩
      rcases hr with (rfl | ⟨k, hk, rfl⟩) | (rfl | rfl) | ⟨_, rfl⟩ | rfl
      · exact ⟨by decide, nk 0 (by decide)⟩
      · exact nk k (by omega)
      · exact ⟨by decide, b0, nk 1 (by decide)⟩
      · exact ⟨b0, nk p.2.1 c⟩
      · exact b0
      · exact ⟨by decide, b0⟩
    · exact rows10_ok _ ps (fun q hq => h q (by simp [hq])) r hr
theorem cut_dl (xs : List V) : cutV xs none (some (-1)) = xs.dropLast := by
  unfold cutV
  have e : HT.sIx xs.length xs.length (some (-1)) = xs.length - 1 := by
    show (if (-1 : Int) < 0 then ((-1 : Int) + (xs.length : Int)).toNat else min (-1 : Int).toNat xs.length) = xs.length - 1
    rw [if_pos (by decide)]
    omega
  rw [HT.sIx_none, e, List.drop_zero, Nat.sub_zero, List.dropLast_eq_take]
theorem dats_drop {H : Hp} {vs : List V} {rws : List Rw} (d : Dats H vs (rws.map rwD)) : Dats H vs.dropLast (rws.dropLast.map rwD) := by
  induction rws generalizing vs with
  | nil =>
    cases vs with
    | nil => exact d
    | cons v vs => simp [Dats] at d
  | cons r rws ih =>
    cases vs with
    | nil => simp [Dats] at d
    | cons v vs =>
      simp only [List.map_cons, Dats] at d
      obtain ⟨d1, d2⟩ := d
      cases rws with
      | nil =>
        cases vs with
        | nil => simp [Dats]
        | cons w ws => simp [Dats] at d2
      | cons r' rws' =>
        cases vs with
        | nil => simp [Dats] at d2
        | cons w ws =>
          have := ih d2
          simp only [List.dropLast_cons₂, List.map_cons, Dats] at this ⊢
          exact ⟨d1, this⟩
def spRows10 (K : PySem.W.Frag) : Sp := fun vs H Q _ => ∃ (l : Addr) (ps : List Pt10) (last : Bool), vs = [.ref l, .bl last] ∧ PsAt H l ps ∧ ps.length ≤ 3 ∧ (∀ p ∈ ps, ok10 p) ∧ ∀ (q : Addr) (H' : Hp), H q = none → RowsH H' q 1 (lastR ps last) → Same H H' → Q (.ref q) H'
theorem ok_rows10 {f : Addr} {fd : FuncData} (F : Fun K "_law_rows" "_law_rows" s_Lrows f fd) (Bt : Blt mg) : FnOk P w K mg base CX0 1 f fd ["parts", "last"] (spRows10 K) := by
  refine F.ok sc_Lrows (fun vs H Q E h => ?_) (fun cdv A outer s H vs Q E hr h => ?_)
  · obtain ⟨l, ps, last, rfl, _⟩ := h
    rfl
  · obtain ⟨l, ps, last, rfl, hP, l3, okp, k⟩ := h
    refine ⟨_, (pss_cons (ps_set (i := 2) sc_Lrows.nd rfl (Or.inl rfl) (pe_lst pa_nil))
      (pss_cons (ps_for PassesOwn.never rfl (pi_listK (K := K) rfl (pv 0)) (pg_tupK (K := K) (n := 3) rfl rfl (pgs_cons (pg_name (i := 3) sc_Lrows.nd rfl (Or.inl rfl)) (pgs_cons (pg_name (i := 4) sc_Lrows.nd rfl (Or.inl rfl)) (pgs_cons (pg_name (i := 5) sc_Lrows.nd rfl (Or.inl rfl)) pgs_nil))))
      (pss_cons (ps_expr (pe_appendK (K := K) rfl (pv 2) (pa_cons (pe_tup (pa_cons pe_str (pa_cons pe_str (pa_cons (pe_tup (pa_cons pe_str (pa_cons pe_int pa_nil))) pa_nil)))) pa_nil)))
      (pss_cons (ps_set (i := 2) sc_Lrows.nd rfl (Or.inl rfl) (pe_op op_cat (pv 2) (pe_comp rfl (N := ["k"]) (own := ["k"]) (caps := []) (CompScope.of (by kernel_rfl)) (pi_range1 (by rfl) Bt.b_range (pa_cons (pv 3) pa_nil)) (fun _ _ _ _ => (pg_name (i := 0) (show List.Nodup (["k"] : List Str) by decide +kernel) rfl (Or.inl rfl))) (fun _ _ _ _ => pts_nil) (fun _ _ _ _ => (pe_tup (pa_cons pe_str (pa_cons (pe_tup (pa_cons pe_str (pa_cons (pv 0) pa_nil))) pa_nil)))))))
      (pss_cons (ps_set (i := 6) sc_Lrows.nd rfl (Or.inl rfl) (pe_callB (call_len_seqK (K := K) rfl) (by rfl) Bt.b_len bt_len (pa_cons (pv 2) pa_nil)))
      (pss_cons (ps_expr (pe_appendK (K := K) rfl (pv 2) (pa_cons (pe_tup (pa_cons pe_str (pa_cons pe_str (pa_cons (pe_tup (pa_cons pe_str (pa_cons (pe_tup (pa_cons pe_str (pa_cons pe_str pa_nil))) (pa_cons (pe_tup (pa_cons pe_str (pa_cons pe_int pa_nil))) pa_nil)))) pa_nil)))) pa_nil)))
      (pss_cons (ps_expr (pe_appendK (K := K) rfl (pv 2) (pa_cons (pe_tup (pa_cons pe_str (pa_cons pe_str (pa_cons (pe_tup (pa_cons pe_str (pa_cons pe_str pa_nil))) (pa_cons (pe_tup (pa_cons pe_str (pa_cons (pv 4) pa_nil))) (pa_cons (pv 6) pa_nil)))))) pa_nil)))
      (pss_cons (ps_set (i := 2) sc_Lrows.nd rfl (Or.inl rfl) (pe_op op_cat (pv 2) (pe_comp rfl (N := ["k"]) (own := ["k"]) (caps := []) (CompScope.of (by kernel_rfl)) (pi_range1 (by rfl) Bt.b_range (pa_cons (pv 5) pa_nil)) (fun _ _ _ _ => (pg_name (i := 0) (show List.Nodup (["k"] : List Str) by decide +kernel) rfl (Or.inl rfl))) (fun _ _ _ _ => pts_nil) (fun _ _ _ _ => (pe_tup (pa_cons pe_str (pa_cons (pe_tup (pa_cons pe_str (pa_cons pe_str pa_nil))) pa_nil)))))))
      (pss_one (ps_expr (pe_appendK (K := K) rfl (pv 2) (pa_cons (pe_tup (pa_cons pe_str (pa_cons pe_int (pa_cons (pe_tup (pa_cons pe_str (pa_cons pe_str pa_nil))) pa_nil)))) pa_nil)))))))))))
      (pss_cons (ps_if (pt_val (pv 1)) (pss_one (ps_ret (pv 2))) pss_nil)
      (pss_one (ps_ret (pe_slice (sl_listK (K := K) rfl) (pv 2) po_none (po_some (pe_un un_neg pe_int)))))))), ?_⟩
    obtain ⟨ts, el, lt, gt⟩ := id hP
    have lle := lenP_le okp
    refine ⟨(by show 0 ≤ sizeLine; decide), fun a0 ha0 => ?_⟩
    have sa := same_new (o := HO.lst []) ha0
    have take_le : ∀ j, lenP (ps.take j) ≤ lenP ps := fun j => by
      conv => rhs; rw [← List.take_append_drop j ps, lenP_app]
      omega
    refine ⟨_, rfl, l, rfl, ⟨_, SqL.of (sa _ _ el)⟩, for_list (K := K) (a := l) (xs := ts.map V.ref) (fun j σ Hc => ∃ (a : Addr) (v1 v2 v3 v4 : Option V), σ = [some (.ref l), some (.bl last), some (.ref a), v1, v2, v3, v4] ∧ Same H Hc ∧ H a = none ∧ RL Hc a (rows10 (ps.take j)))
      ⟨a0, none, none, none, none, rfl, sa, ha0, [], upd_same, by simp [rows10, rowsF, Dats]⟩ (fun j σ Hc _ ⟨a, v1, v2, v3, v4, _, sc, _⟩ => SqL.of (sc _ _ el)) ?_ ?_⟩
    · rintro j x σ Hc hj ⟨a, v1, v2, v3, v4, rfl, sc, ha, refs, ea, dr⟩
      rw [List.getElem?_map] at hj
      obtain ⟨t, et, rfl⟩ : ∃ t, ts[j]? = some t ∧ x = .ref t := by
        cases e : ts[j]? with
        | none => rw [e] at hj; cases hj
        | some t => rw [e] at hj; exact ⟨t, rfl, (Option.some.inj hj).symm⟩
      have jl : j < ps.length := by rw [← lt]; exact (List.getElem?_eq_some_iff.mp et).1
      have ep : ps[j]? = some ps[j] := by simp [jl]
      have ht := sc _ _ (gt j t ps[j] et ep)
      obtain ⟨p1, p2, p3, p4⟩ := okp ps[j] (List.getElem_mem jl)
      have etk : ps.take (j + 1) = ps.take j ++ [ps[j]] := by rw [List.take_succ, ep]; rfl
      have lj := take_le j
      have rl : refs.length = lenP (ps.take j) := by rw [dr.length, List.length_map]; unfold rows10; rw [rowsF_len]
      generalize ps[j] = p at ht p1 p2 p3 p4 etk ep
      generalize eR : rows10 (ps.take j) = Rj at dr
      have lR : Rj.length = lenP (ps.take j) := by rw [← eR]; unfold rows10; rw [rowsF_len]
      refine ⟨t, _, rfl, SqT.of ht, rfl, _, _, rfl, _, _, rfl, _, _, rfl, rfl, ?_⟩
      -- the let
      refine ⟨_, rfl, .inl ⟨rfl, _, SqL.of ea⟩, (by show 2 ≤ sizeLine; decide), fun q1 hq1 => ⟨(by show 3 ≤ sizeLine; decide), fun q2 hq2 => ?_⟩⟩
      have s1 := same_new (o := HO.tup [V.str (Str.ofString "number"), V.int 0]) hq1
      have s2 := same_new (o := HO.tup [V.str (Str.ofString "let"), V.str (Str.ofString "a"), V.ref q1]) hq2
      have s12 := s1.trans s2
      refine ⟨a, refs, _, rfl, rfl, s12 _ _ ea, (by rw [rl, sizeLine_eq]; omega), ?_⟩
      have L1 := RL.snoc (r := .lett 0 (.one (.num 0))) (s12 _ _ ea) (dr.same s12 _) (dat_let (b := 0) (x := .ref q1) upd_same (dat_x1 (x := .num 0) (s2 _ _ upd_same)))
      have S1 : Same H (upd (upd (upd Hc q1 (.tup [V.str (Str.ofString "number"), V.int 0])) q2 (.tup [V.str (Str.ofString "let"), V.str (Str.ofString "a"), V.ref q1])) a (.lst (refs ++ [V.ref q2]))) := (sc.trans s12).newly ha
      generalize (upd (upd (upd Hc q1 (.tup [V.str (Str.ofString "number"), V.int 0])) q2 (.tup [V.str (Str.ofString "let"), V.str (Str.ofString "a"), V.ref q1])) a (.lst (refs ++ [V.ref q2]))) = H1 at L1 S1 ⊢
      clear s1 s2 s12 hq1 hq2
      obtain ⟨refs1, e1, d1⟩ := L1
      have rl1 : refs1.length = lenP (ps.take j) + 1 := by rw [d1.length, List.length_map, List.length_append, lR]; rfl
      -- sayings
      refine ⟨_, rfl, _, rfl, _, rfl, by omega, by omega, fun D hD => ?_⟩
      rw [Int.toNat_natCast]
      refine comp_datR (fun i => rwD (.say (.one (.num (i : Int))))) (fun i => imm_rw _) hD (by omega) (fun i H2 F hi s2 kF => ?_) (fun H2 vs s2 eD dD => ?_)
      · rw [Int.zero_add]
        refine ⟨_, rfl, (by show 2 ≤ sizeLine; decide), fun q1 hq1 => ⟨(by show 2 ≤ sizeLine; decide), fun q2 hq2 => ?_⟩⟩
        have u1 := same_new (o := HO.tup [V.str (Str.ofString "number"), V.int (i : Int)]) hq1
        have u2 := same_new (o := HO.tup [V.str (Str.ofString "say"), V.ref q1]) hq2
        exact kF _ _ (u1.trans u2) (dat_say (x := .ref q1) upd_same (dat_x1 (x := .num i) (u2 _ _ upd_same)))
      have vl : vs.length = p.1 := by rw [dD.length]; simp
      refine ⟨a, D, _, _, rfl, rfl, s2 _ _ e1, eD, (by rw [rl1, vl, sizeLine_eq]; omega), fun b hb => ?_⟩
      have sb := same_new (o := HO.lst (refs1 ++ vs)) hb
      have eb : (upd H2 b (.lst (refs1 ++ vs))) b = some (.lst (refs1 ++ vs)) := upd_same
      have db : Dats (upd H2 b (.lst (refs1 ++ vs))) (refs1 ++ vs) ((Rj ++ [Rw.lett 0 (.one (.num 0))] ++ (List.range p.1).map fun k : Nat => Rw.say (.one (.num k))).map rwD) := by
        rw [List.map_append, List.map_map]
        exact (d1.same (s2.trans sb) _).append (dD.same sb _)
      have S2 : Same H (upd H2 b (.lst (refs1 ++ vs))) := (S1.trans s2).trans sb
      have hb0 : H b = none := (S1.trans s2).free hb
      generalize (upd H2 b (.lst (refs1 ++ vs))) = H3 at eb db S2 ⊢
      clear sb eD dD s2 d1 e1 hb
      have bl : (refs1 ++ vs).length = lenP (ps.take j) + 1 + p.1 := by rw [List.length_append, rl1, vl]
      generalize (refs1 ++ vs) = refs2 at eb db bl
      -- back
      refine ⟨_, rfl, b, _, rfl, .inl (SqL.of eb), ?_⟩
      rw [bl]
      -- the go-round
      refine ⟨_, rfl, .inl ⟨rfl, _, SqL.of eb⟩, (by show 2 ≤ sizeLine; decide), fun q1 hq1 => ⟨(by show 2 ≤ sizeLine; decide), fun q2 hq2 => ⟨(by show 3 ≤ sizeLine; decide), fun q3 hq3 => ⟨(by show 3 ≤ sizeLine; decide), fun q4 hq4 => ?_⟩⟩⟩⟩
      have s1 := same_new (o := HO.tup [V.str (Str.ofString "box"), V.str (Str.ofString "a")]) hq1
      have s2 := same_new (o := HO.tup [V.str (Str.ofString "number"), V.int 1]) hq2
      have s3 := same_new (o := HO.tup [V.str (Str.ofString "plus"), V.ref q1, V.ref q2]) hq3
      have s4 := same_new (o := HO.tup [V.str (Str.ofString "let"), V.str (Str.ofString "a"), V.ref q3]) hq4
      have s14 := ((s1.trans s2).trans s3).trans s4
      refine ⟨b, refs2, _, rfl, rfl, s14 _ _ eb, (by rw [bl, sizeLine_eq]; omega), ?_⟩
      have L1 := RL.snoc (r := .lett 0 (.two true (.box 0) (.num 1))) (s14 _ _ eb) (db.same s14 _) (dat_let (b := 0) (x := .ref q3) upd_same (dat_two (q := true) (s4 _ _ upd_same) (dat_x1 (x := .box 0) (s4 _ _ (s3 _ _ (s2 _ _ upd_same)))) (dat_x1 (x := .num 1) (s4 _ _ (s3 _ _ upd_same)))))
      generalize hG : (upd (upd (upd (upd (upd H3 q1 (.tup [V.str (Str.ofString "box"), V.str (Str.ofString "a")])) q2 (.tup [V.str (Str.ofString "number"), V.int 1])) q3 (.tup [V.str (Str.ofString "plus"), V.ref q1, V.ref q2])) q4 (.tup [V.str (Str.ofString "let"), V.str (Str.ofString "a"), V.ref q3])) b (.lst (refs2 ++ [V.ref q4]))) = H4 at L1 ⊢
      have S4 : Same H H4 := by rw [← hG]; exact (S2.trans s14).newly hb0
      clear hG s1 s2 s3 s4 s14 hq1 hq2 hq3 hq4 eb db
      obtain ⟨refs3, e3, d3⟩ := L1
      have rl3 : refs3.length = lenP (ps.take j) + 2 + p.1 := by rw [d3.length, List.length_map]; simp [lR]; omega
      refine ⟨_, rfl, .inl ⟨rfl, _, SqL.of e3⟩, (by show 2 ≤ sizeLine; decide), fun q1 hq1 => ⟨_, rfl, (by show 2 ≤ sizeLine; decide), fun q2 hq2 => ⟨_, rfl, (by show 5 ≤ sizeLine; decide), fun q3 hq3 => ?_⟩⟩⟩
      have s1 := same_new (o := HO.tup [V.str (Str.ofString "box"), V.str (Str.ofString "a")]) hq1
      have s2 := same_new (o := HO.tup [V.str (Str.ofString "number"), V.int p.2.1]) hq2
      have s3 := same_new (o := HO.tup [V.str (Str.ofString "unless"), V.str (Str.ofString "="), V.ref q1, V.ref q2, V.int ((lenP (ps.take j) + 1 + p.1 : Nat) : Int)]) hq3
      have s13 := (s1.trans s2).trans s3
      refine ⟨b, refs3, _, rfl, rfl, s13 _ _ e3, (by rw [rl3, sizeLine_eq]; omega), ?_⟩
      have L2 := RL.snoc (r := .unl true (.one (.box 0)) (.one (.num p.2.1)) (lenP (ps.take j) + 1 + p.1)) (s13 _ _ e3) (d3.same s13 _) (dat_unl (q := true) (x := .ref q1) (y := .ref q2) upd_same (dat_x1 (x := .box 0) (s3 _ _ (s2 _ _ upd_same))) (dat_x1 (x := .num p.2.1) (s3 _ _ upd_same)))
      generalize hG : (upd (upd (upd (upd H4 q1 (.tup [V.str (Str.ofString "box"), V.str (Str.ofString "a")])) q2 (.tup [V.str (Str.ofString "number"), V.int p.2.1])) q3 (.tup [V.str (Str.ofString "unless"), V.str (Str.ofString "="), V.ref q1, V.ref q2, V.int ((lenP (ps.take j) + 1 + p.1 : Nat) : Int)])) b (.lst (refs3 ++ [V.ref q3]))) = H5 at L2 ⊢
      have S5 : Same H H5 := by rw [← hG]; exact (S4.trans s13).newly hb0
      clear hG s1 s2 s3 s13 hq1 hq2 hq3 e3 d3
      obtain ⟨refs4, e4, d4⟩ := L2
      have rl4 : refs4.length = lenP (ps.take j) + 3 + p.1 := by rw [d4.length, List.length_map]; simp [lR]; omega
      -- sayings behind
      refine ⟨_, rfl, _, rfl, _, rfl, by omega, by omega, fun D hD => ?_⟩
      rw [Int.toNat_natCast]
      refine comp_datR (fun i => rwD (.say (.one (.box 0)))) (fun i => imm_rw _) hD (by omega) (fun i H6 F hi s6 kF => ?_) (fun H6 vs s6 eD dD => ?_)
      · refine ⟨(by show 2 ≤ sizeLine; decide), fun q1 hq1 => ⟨(by show 2 ≤ sizeLine; decide), fun q2 hq2 => ?_⟩⟩
        have u1 := same_new (o := HO.tup [V.str (Str.ofString "box"), V.str (Str.ofString "a")]) hq1
        have u2 := same_new (o := HO.tup [V.str (Str.ofString "say"), V.ref q1]) hq2
        exact kF _ _ (u1.trans u2) (dat_say (x := .ref q1) upd_same (dat_x1 (x := .box 0) (u2 _ _ upd_same)))
      have vl : vs.length = p.2.2 := by rw [dD.length]; simp
      refine ⟨b, D, _, _, rfl, rfl, s6 _ _ e4, eD, (by rw [rl4, vl, sizeLine_eq]; omega), fun c hc => ?_⟩
      have sc2 := same_new (o := HO.lst (refs4 ++ vs)) hc
      have ec : (upd H6 c (.lst (refs4 ++ vs))) c = some (.lst (refs4 ++ vs)) := upd_same
      have dc := (d4.same (s6.trans sc2) _).append (dD.same sc2 _)
      have S6 : Same H (upd H6 c (.lst (refs4 ++ vs))) := (S5.trans s6).trans sc2
      have hc0 : H c = none := (S5.trans s6).free hc
      have cl : (refs4 ++ vs).length = lenP (ps.take j) + 3 + p.1 + p.2.2 := by rw [List.length_append, rl4, vl]
      generalize (upd H6 c (.lst (refs4 ++ vs))) = H7 at ec dc S6 ⊢
      generalize (refs4 ++ vs) = refs5 at ec dc cl
      rw [show (List.range p.2.2).map (fun _ => rwD (.say (.one (.box 0)))) = (List.replicate p.2.2 (Rw.say (.one (.box 0)))).map rwD by simp [List.map_const'], ← List.map_append] at dc
      -- the store
      refine ⟨_, rfl, .inl ⟨rfl, _, SqL.of ec⟩, (by show 2 ≤ sizeLine; decide), fun q1 hq1 => ⟨(by show 3 ≤ sizeLine; decide), fun q2 hq2 => ?_⟩⟩
      have s1 := same_new (o := HO.tup [V.str (Str.ofString "box"), V.str (Str.ofString "a")]) hq1
      have s2 := same_new (o := HO.tup [V.str (Str.ofString "store"), V.int 0, V.ref q1]) hq2
      have s12 := s1.trans s2
      refine ⟨c, refs5, _, rfl, rfl, s12 _ _ ec, (by rw [cl, sizeLine_eq]; omega), ?_⟩
      have L3 := RL.snoc (r := .store 0 (.one (.box 0))) (s12 _ _ ec) (dc.same s12 _) (dat_store (c := 0) (x := .ref q1) upd_same (dat_x1 (x := .box 0) (s2 _ _ upd_same)))
      refine ⟨c, _, _, _, _, rfl, (S6.trans s12).newly hc0, hc0, ?_⟩
      have eq : rows10 (ps.take (j + 1)) = Rj ++ [Rw.lett 0 (.one (.num 0))] ++ ((List.range p.1).map fun k : Nat => Rw.say (.one (.num k))) ++ [.lett 0 (.two true (.box 0) (.num 1))] ++ [.unl true (.one (.box 0)) (.one (.num p.2.1)) (lenP (ps.take j) + 1 + p.1)] ++ List.replicate p.2.2 (Rw.say (.one (.box 0))) ++ [.store 0 (.one (.box 0))] := by
        rw [etk, rows10_snoc, eR, lR]
        unfold partR
        simp only [List.append_assoc, List.cons_append, List.nil_append]
      rw [eq]
      exact L3
    · rintro σ Hc ⟨a, v1, v2, v3, v4, rfl, sc, ha, refs, ea, dr⟩
      rw [List.length_map, lt, List.take_length] at dr
      have rl : refs.length = lenP ps := by rw [dr.length, List.length_map]; unfold rows10; rw [rowsF_len]
      refine ⟨_, rfl, _, rfl, ?_⟩
      cases last with
      | true =>
        refine iteT ?_
        exact ⟨_, rfl, k a Hc ha ⟨refs, ea, dr, rows10_ok 0 ps okp, by unfold lastR rows10; simp only [if_true]; rw [rowsF_len]; omega⟩ sc⟩
      | false =>
        refine iteF ?_
        refine ⟨_, rfl, _, rfl, _, rfl, _, _, rfl, SqL.of ea, fun q hq => ?_⟩
        rw [cut_dl]
        have sq := same_new (o := HO.lst refs.dropLast) hq
        refine k q _ (sc.free hq) ⟨refs.dropLast, upd_same, ?_, fun r hr => ?_, ?_⟩ (sc.trans sq)
        · unfold lastR
          rw [if_neg (by decide)]
          exact (dats_drop dr).same sq _
        · unfold lastR at hr
          rw [if_neg (by decide)] at hr
          rw [List.dropLast_eq_take] at hr
          exact rows10_ok 0 ps okp r (List.mem_of_mem_take hr)
        · rw [last_len, if_neg (by decide)]
          omega

structure Lh10 (H : Hp) (h pl sl : Addr) (L : L10) : Prop where
  h : H h = some (.lst [.ref pl, .bl L.last, .int L.n, .int L.a, .ref sl, .str L.st])
  p : PsAt H pl L.ps
  s : H sl = some (.lst (L.sy.map V.int))
theorem rng_ints (n : Nat) : (List.range n).filterMap (fun k : Nat => some (V.int (k : Int))) = (rngI n).map V.int := by
  unfold rngI
  rw [List.map_map]
  induction n with
  | zero => rfl
  | succ n ih => rw [fm_succ, ih, List.range_succ, List.map_append]; rfl
def spLed10 (K : PySem.W.Frag) : Sp := fun vs H Q _ => ∃ (h pl sl : Addr) (L : L10), vs = [.ref h] ∧ Lh10 H h pl sl L ∧ (∀ p ∈ L.ps, ok10 p) ∧ L.ps.length ≤ 3 ∧ L.n ≤ 100 ∧ L.sy.length ≤ 10000 ∧ h ≠ pl ∧ h ≠ sl ∧ ∀ (sl' : Addr) (H' : Hp), Lh10 H' h pl sl' (led10 L) → (sl' = sl ∨ H sl' = none) → (∃ o, H' sl' = some o) → h ≠ sl' → Kp h H H' → Q .non H'
theorem ok_led10 {f : Addr} {fd : FuncData} (F : Fun K "_law_led" "_law_led" s_Lled f fd) (Bt : Blt mg) : FnOk P w K mg base CX0 1 f fd ["hand"] (spLed10 K) := by
  refine F.ok sc_Lled (fun vs H Q E h => ?_) (fun cdv A outer s H vs Q E hr h => ?_)
  · obtain ⟨h, pl, sl, L, rfl, _⟩ := h
    rfl
  · obtain ⟨h, pl, sl, L, rfl, lh, okp, l3, n100, sy1, nhp, nhs, k⟩ := h
    refine ⟨_, (pss_cons (ps_par3 (i := 1) (j := 2) (l := 3) rfl sc_Lled.nd rfl rfl rfl (by decide) (by decide) (by decide) (by rfl) (by rfl) (by rfl) (pa_cons (pe_ix (ix_listK (K := K) rfl) (pv 0) pe_int (fun _ _ => rfl)) (pa_cons (pe_ix (ix_listK (K := K) rfl) (pv 0) pe_int (fun _ _ => rfl)) (pa_cons (pe_ix (ix_listK (K := K) rfl) (pv 0) pe_int (fun _ _ => rfl)) pa_nil))) (by first | rfl | kernel_rfl))
      (pss_cons (ps_asg pe_str (pg_sub (pv 0) pe_int set_list))
      (pss_one (ps_if (pt_cmpR op_lt (pv 3) (pe_callB (call_len_seqK (K := K) rfl) (by rfl) Bt.b_len bt_len (pa_cons (pv 1) pa_nil)) (nomark _)) (pss_cons (ps_asg (pe_ix (ix_listK (K := K) rfl) (pv 1) (pv 3) (fun _ _ => rfl)) (pg_tupK (K := K) (n := 3) rfl rfl (pgs_cons (pg_name (i := 4) sc_Lled.nd rfl (Or.inl rfl)) (pgs_cons (pg_name (i := 5) sc_Lled.nd rfl (Or.inr rfl)) (pgs_cons (pg_name (i := 6) sc_Lled.nd rfl (Or.inl rfl)) pgs_nil)))))
      (pss_cons (ps_set (i := 7) sc_Lled.nd rfl (Or.inl rfl) (pe_callB (call_min2 rfl) (by rfl) Bt.b_min bt_min (pa_cons pe_int (pa_cons (pe_op op_add (pe_op op_add (pe_op op_add pe_int (pv 4)) (pe_op op_mul pe_int (pv 5))) (pv 6)) pa_nil))))
      (pss_cons (ps_asg (pe_callB (call_max2 rfl) (by rfl) Bt.b_max bt_max (pa_cons pe_int (pa_cons (pe_callB (call_min2 rfl) (by rfl) Bt.b_min bt_min (pa_cons (pv 5) (pa_cons (pe_op op_fdiv (pe_op op_sub (pv 7) (pv 4)) pe_int) pa_nil))) pa_nil))) (pg_sub (pv 0) pe_int set_list))
      (pss_cons (ps_asg (pe_op op_cat (pe_op op_cat (pe_ix (ix_listK (K := K) rfl) (pv 0) pe_int (fun _ _ => rfl)) (pe_comp rfl (N := ["k"]) (own := ["k"]) (caps := []) (CompScope.of (by kernel_rfl)) (pi_range1 (by rfl) Bt.b_range (pa_cons (pv 4) pa_nil)) (fun _ _ _ _ => (pg_name (i := 0) (show List.Nodup (["k"] : List Str) by decide +kernel) rfl (Or.inl rfl))) (fun _ _ _ _ => pts_nil) (fun _ _ _ _ => (pv 0)))) (pe_comp rfl (N := ["k", "times"]) (own := ["k"]) (caps := [5]) (CompScope.of (by kernel_rfl)) (pi_range1 (by rfl) Bt.b_range (pa_cons (pe_op op_sub (pe_op op_sub (pe_op op_sub (pv 7) pe_int) (pv 4)) (pe_op op_mul pe_int (pv 5))) pa_nil)) (fun _ _ _ _ => (pg_name (i := 0) (show List.Nodup (["k", "times"] : List Str) by decide +kernel) rfl (Or.inl rfl))) (fun _ _ _ _ => pts_nil) (fun _ _ _ _ => (pv 1)))) (pg_sub (pv 0) pe_int set_list))
      (pss_one (ps_if (pt_cmpR op_gt (pe_op op_add (pe_op op_add (pe_op op_add pe_int (pv 4)) (pe_op op_mul pe_int (pv 5))) (pv 6)) pe_int (nomark _)) (pss_one (ps_asg pe_str (pg_sub (pv 0) pe_int set_list))) (pss_one (ps_if (PW.pt (pw_or (pt_val (pv 2)) (pw_or1 (pt_cmpR op_lt (pe_op op_add (pv 3) pe_int) (pe_callB (call_len_seqK (K := K) rfl) (by rfl) Bt.b_len bt_len (pa_cons (pv 1) pa_nil)) (nomark _))))) (pss_one (ps_asg pe_str (pg_sub (pv 0) pe_int set_list))) pss_nil)))))))) pss_nil)))), ?_⟩
    refine ⟨_, rfl, _, _, _, _, rfl, rfl, SqL.of lh.h, rfl, _, rfl, _, _, _, _, rfl, rfl, SqL.of lh.h, rfl, _, rfl, _, _, _, _, rfl, rfl, SqL.of lh.h, rfl, _, _, _, rfl, ?_⟩
    refine ⟨_, rfl, h, _, _, 5, rfl, rfl, lh.h, rfl, ?_⟩
    rw [show ([V.ref pl, V.bl L.last, V.int L.n, V.int L.a, V.ref sl, V.str L.st].set 5 (V.str (Str.ofString "ends"))) = [.ref pl, .bl L.last, .int L.n, .int L.a, .ref sl, .str "ends"] from rfl]
    have k2 : Kp h H (upd H h (.lst [.ref pl, .bl L.last, .int L.n, .int L.a, .ref sl, .str "ends"])) := Kp.set
    have e2 : (upd H h (.lst [.ref pl, .bl L.last, .int L.n, .int L.a, .ref sl, .str "ends"])) h = some (.lst [.ref pl, .bl L.last, .int L.n, .int L.a, .ref sl, .str "ends"]) := upd_same
    have tup2 : ∀ x xs, H x = some (.tup xs) → (upd H h (.lst [.ref pl, .bl L.last, .int L.n, .int L.a, .ref sl, .str "ends"])) x = some (.tup xs) := fun x xs q => k2 _ _ q (ne_of q lh.h (by intro z; cases z))
    generalize (upd H h (.lst [.ref pl, .bl L.last, .int L.n, .int L.a, .ref sl, .str "ends"])) = H2 at k2 e2 tup2 ⊢
    have p2 : PsAt H2 pl L.ps := lh.p.keep (fun o q => k2 _ _ q nhp.symm) tup2
    have s2 := k2 _ _ lh.s nhs.symm
    obtain ⟨ts, ep, lt, gt⟩ := id p2
    refine ⟨_, rfl, _, rfl, pl, _, rfl, .inl (SqL.of ep), _, _, rfl, rfl, _, rfl, ?_⟩
    rw [List.length_map, lt]
    cases e : L.ps[L.n]? with
    | none =>
      have ge := List.getElem?_eq_none_iff.mp e
      refine ite2 (fun q => absurd (of_decide_eq_true q) (by omega)) (fun _ => ?_)
      have e1 : led10 L = { L with st := "ends" } := by unfold led10; rw [e]
      refine k sl H2 ?_ (.inl rfl) ⟨_, s2⟩ nhs k2
      rw [e1]
      exact ⟨e2, p2, s2⟩
    | some p =>
      have nl := (List.getElem?_eq_some_iff.mp e).1
      obtain ⟨o1, o2, o3, o4⟩ := okp p (List.mem_of_getElem? e)
      refine ite2 (fun _ => ?_) (fun q => absurd (decide_eq_true (by omega)) q)
      obtain ⟨tt, ett⟩ : ∃ tt, ts[L.n]? = some tt := ⟨_, List.getElem?_eq_getElem (by rw [lt]; exact nl)⟩
      have htt := gt L.n tt p ett e
      refine ⟨_, rfl, _, rfl, _, _, _, _, rfl, rfl, SqL.of ep, atI_nat (v := .ref tt) (by rw [List.getElem?_map, ett]; rfl), tt, _, rfl, SqT.of htt, rfl, _, _, rfl, _, _, rfl, _, _, rfl, rfl, ?_⟩
      -- gone
      refine ⟨_, rfl, _, _, rfl, rfl, _, rfl, _, _, rfl, rfl, .inr ⟨by omega, by omega⟩, _, _, rfl, rfl, _, rfl, _, _, rfl, rfl, _, _, rfl, ?_⟩
      have eg : (if (1 : Int) + (p.1 : Int) + 2 * (p.2.1 : Int) + (p.2.2 : Int) < 60 then (1 : Int) + (p.1 : Int) + 2 * (p.2.1 : Int) + (p.2.2 : Int) else 60) = ((gone10 p : Nat) : Int) := by
        unfold gone10 all10
        split <;> omega
      rw [eg]
      have g0 : gone10 p ≤ 60 := Nat.min_le_left _ _
      have g1 : 1 + p.1 ≤ gone10 p := by unfold gone10 all10; omega
      -- the box
      refine ⟨_, rfl, _, rfl, _, rfl, _, _, rfl, rfl, _, _, rfl, rfl, ⟨by decide, by decide⟩, _, _, rfl, _, _, rfl, _, rfl, h, _, _, 3, rfl, rfl, e2, rfl, ?_⟩
      have eb : (if (if (((gone10 p : Nat) : Int) - (p.1 : Int)) / 2 < (p.2.1 : Int) then (((gone10 p : Nat) : Int) - (p.1 : Int)) / 2 else (p.2.1 : Int)) > 0 then (if (((gone10 p : Nat) : Int) - (p.1 : Int)) / 2 < (p.2.1 : Int) then (((gone10 p : Nat) : Int) - (p.1 : Int)) / 2 else (p.2.1 : Int)) else 0) = ((box10 p : Nat) : Int) := by
        unfold box10
        have : (((gone10 p : Nat) : Int) - (p.1 : Int)) / 2 = (((gone10 p - p.1) / 2 : Nat) : Int) := by omega
        rw [this]
        split <;> split at * <;> omega
      rw [eb, show ([V.ref pl, V.bl L.last, V.int L.n, V.int L.a, V.ref sl, V.str (Str.ofString "ends")].set 3 (V.int (box10 p))) = [.ref pl, .bl L.last, .int L.n, .int (box10 p), .ref sl, .str "ends"] from rfl]
      have k3 : Kp h H (upd H2 h (.lst [.ref pl, .bl L.last, .int L.n, .int (box10 p), .ref sl, .str "ends"])) := k2.trans Kp.set
      have e3 : (upd H2 h (.lst [.ref pl, .bl L.last, .int L.n, .int (box10 p), .ref sl, .str "ends"])) h = some (.lst [.ref pl, .bl L.last, .int L.n, .int (box10 p), .ref sl, .str "ends"]) := upd_same
      generalize (upd H2 h (.lst [.ref pl, .bl L.last, .int L.n, .int (box10 p), .ref sl, .str "ends"])) = H3 at k3 e3 ⊢
      have s3 := k3 _ _ lh.s nhs.symm
      -- sayings
      dsimp only
      refine ⟨_, rfl, _, _, _, _, rfl, rfl, SqL.of e3, rfl, _, rfl, _, rfl, by omega, by omega, fun D hD => ?_⟩
      rw [Int.toNat_natCast]
      refine comp_valR (n := p.1) (fun k : Nat => some (V.int (k : Int))) hD (by omega) (fun i H4 G F hi s4 kG kF => ?_) (fun H4 s4 e4 => ?_)
      · dsimp only [tAll]
        rw [if_pos rfl, Int.zero_add]
        exact ⟨_, rfl, kF _ H4 (Same.refl _) rfl⟩
      rw [rng_ints] at e4
      refine ⟨sl, D, _, _, rfl, rfl, s4 _ _ s3, e4, (by rw [List.length_map, List.length_map, sizeLine_eq]; simp only [rngI, List.length_map, List.length_range]; omega), fun c hc => ?_⟩
      have sc := same_new (o := HO.lst (L.sy.map V.int ++ (rngI p.1).map V.int)) hc
      have ec : (upd H4 c (.lst (L.sy.map V.int ++ (rngI p.1).map V.int))) c = some (.lst ((L.sy ++ rngI p.1).map V.int)) := by rw [upd_same, List.map_append]
      have s5 := s4.trans sc
      generalize (upd H4 c (.lst (L.sy.map V.int ++ (rngI p.1).map V.int))) = H5 at ec s5 ⊢
      refine ⟨_, rfl, _, _, rfl, rfl, _, rfl, _, _, rfl, rfl, _, rfl, _, _, rfl, rfl, .inr ⟨by omega, by omega⟩, _, _, rfl, rfl, _, rfl, by omega, by omega, fun D2 hD2 => ?_⟩
      have en : (((gone10 p : Nat) : Int) - 1 - (p.1 : Int) - 2 * (p.2.1 : Int)).toNat = gone10 p - 1 - p.1 - 2 * p.2.1 := by omega
      rw [en]
      refine comp_valR (n := gone10 p - 1 - p.1 - 2 * p.2.1) (fun _ : Nat => some (V.int (p.2.1 : Int))) hD2 (by omega) (fun i H6 G F hi s6 kG kF => ?_) (fun H6 s6 e6 => ?_)
      · dsimp only [tAll]
        rw [if_pos rfl]
        exact ⟨_, rfl, kF _ H6 (Same.refl _) rfl⟩
      rw [fm_const'] at e6
      have ls : (L.sy ++ rngI p.1).length ≤ 10100 := by rw [List.length_append]; simp only [rngI, List.length_map, List.length_range]; omega
      refine ⟨c, D2, _, _, rfl, rfl, s6 _ _ ec, e6, (by rw [List.length_map, List.length_replicate, sizeLine_eq]; omega), fun d hd => ?_⟩
      have sd := same_new (o := HO.lst ((L.sy ++ rngI p.1).map V.int ++ List.replicate (gone10 p - 1 - p.1 - 2 * p.2.1) (V.int (p.2.1 : Int)))) hd
      have ed : (upd H6 d (.lst ((L.sy ++ rngI p.1).map V.int ++ List.replicate (gone10 p - 1 - p.1 - 2 * p.2.1) (V.int (p.2.1 : Int))))) d = some (.lst ((L.sy ++ say10 p).map V.int)) := by
        rw [upd_same]
        unfold say10
        rw [← List.append_assoc, List.map_append (l₁ := L.sy ++ rngI p.1), List.map_replicate]
      have s7 : Same H3 (upd H6 d (.lst ((L.sy ++ rngI p.1).map V.int ++ List.replicate (gone10 p - 1 - p.1 - 2 * p.2.1) (V.int (p.2.1 : Int))))) := (s5.trans s6).trans sd
      have fd : H3 d = none := (s5.trans s6).free hd
      generalize (upd H6 d (.lst ((L.sy ++ rngI p.1).map V.int ++ List.replicate (gone10 p - 1 - p.1 - 2 * p.2.1) (V.int (p.2.1 : Int))))) = H7 at ed s7 ⊢
      have ndh : h ≠ d := ne_of_none e3 fd
      have fdH : H d = none := kp_none k3 ndh.symm fd
      refine ⟨_, rfl, h, _, _, 4, rfl, rfl, s7 _ _ e3, rfl, ?_⟩
      rw [show ([V.ref pl, V.bl L.last, V.int L.n, V.int (box10 p), V.ref sl, V.str (Str.ofString "ends")].set 4 (V.ref d)) = [.ref pl, .bl L.last, .int L.n, .int (box10 p), .ref d, .str "ends"] from rfl]
      have k8 : Kp h H (upd H7 h (.lst [.ref pl, .bl L.last, .int L.n, .int (box10 p), .ref d, .str "ends"])) := (k3.trans (Kp.of_same s7)).trans Kp.set
      have e8 : (upd H7 h (.lst [.ref pl, .bl L.last, .int L.n, .int (box10 p), .ref d, .str "ends"])) h = some (.lst [.ref pl, .bl L.last, .int L.n, .int (box10 p), .ref d, .str "ends"]) := upd_same
      have ed8 : (upd H7 h (.lst [.ref pl, .bl L.last, .int L.n, .int (box10 p), .ref d, .str "ends"])) d = some (.lst ((L.sy ++ say10 p).map V.int)) := by rw [upd_ne ndh.symm]; exact ed
      generalize (upd H7 h (.lst [.ref pl, .bl L.last, .int L.n, .int (box10 p), .ref d, .str "ends"])) = H8 at k8 e8 ed8 ⊢
      -- the state
      have fin : ∀ (x : Str) (H9 : Hp), (if 60 < all10 p then Str.ofString "lost" else if L.last || decide (L.n + 1 < L.ps.length) then Str.ofString "waits" else Str.ofString "ends") = x → H9 h = some (.lst [.ref pl, .bl L.last, .int L.n, .int (box10 p), .ref d, .str x]) → Kp h H8 H9 → Q .non H9 := fun x H9 ex e9 k9 => by
        have kk := k8.trans k9
        have ed9 := k9 _ _ ed8 ndh.symm
        refine k d H9 ?_ (.inr fdH) ⟨_, ed9⟩ ndh kk
        have e1 : led10 L = { L with a := box10 p, sy := L.sy ++ say10 p, st := if 60 < all10 p then "lost" else if L.last || decide (L.n + 1 < L.ps.length) then "waits" else "ends" } := by unfold led10; rw [e]
        rw [e1]
        exact ⟨by rw [e9, ← ex], lh.p.keep (fun o q => kk _ _ q nhp.symm) (fun y ys q => kk _ _ q (ne_of q lh.h (by intro z; cases z))), ed9⟩
      have p8 : PsAt H8 pl L.ps := lh.p.keep (fun o q => k8 _ _ q nhp.symm) (fun y ys q => k8 _ _ q (ne_of q lh.h (by intro z; cases z)))
      obtain ⟨ts8, ep8, lt8, _⟩ := p8
      refine ⟨_, rfl, _, _, rfl, rfl, _, rfl, _, _, rfl, rfl, .inr ⟨by omega, by omega⟩, _, _, rfl, rfl, _, rfl, _, _, rfl, rfl, _, _, rfl, rfl, _, rfl, ?_⟩
      by_cases big : 60 < all10 p
      · refine ite2 (fun _ => ?_) (fun q => absurd (decide_eq_true (by unfold all10 at big; omega)) q)
        refine ⟨_, rfl, h, _, _, 5, rfl, rfl, e8, rfl, ?_⟩
        exact fin "lost" _ (by rw [if_pos big]) upd_same Kp.set
      · refine ite2 (fun q => absurd (of_decide_eq_true q) (by unfold all10 at big; omega)) (fun _ => ?_)
        have more : ∀ H9, (L.last || decide (L.n + 1 < L.ps.length)) = true → H9 h = some (.lst [.ref pl, .bl L.last, .int L.n, .int (box10 p), .ref d, .str "waits"]) → Kp h H8 H9 → Q .non H9 := fun H9 m e9 k9 => fin "waits" H9 (by rw [if_neg big, if_pos m]) e9 k9
        refine ⟨_, rfl, _, rfl, ?_⟩
        refine ite2 (fun q => ?_) (fun q => ?_)
        · refine ⟨_, rfl, h, _, _, 5, rfl, rfl, e8, rfl, ?_⟩
          exact more _ (by rw [q]; rfl) upd_same Kp.set
        · refine ⟨_, rfl, _, _, rfl, rfl, _, rfl, pl, _, rfl, .inl (SqL.of ep8), _, _, rfl, rfl, _, rfl, ?_⟩
          rw [List.length_map, lt8]
          refine ite2 (fun q2 => ?_) (fun q2 => ?_)
          · refine ⟨_, rfl, h, _, _, 5, rfl, rfl, e8, rfl, ?_⟩
            have := of_decide_eq_true q2
            exact more _ (by rw [decide_eq_true (by omega), Bool.or_true]) upd_same Kp.set
          · refine fin "ends" H8 ?_ e8 (Kp.refl _ _)
            have hl : L.last = false := by simpa using q
            have h2 : ¬ L.n + 1 < L.ps.length := fun z => q2 (decide_eq_true (by omega))
            rw [if_neg big, hl, decide_eq_false h2]
            rfl

/-! the law's hands -/
structure Hl10 (τ : Tg) (H : Hp) (a : Addr) (hl : List (Addr × Addr × Addr)) (Ls : List L10) : Prop where
  ea : H a = some (.lst (hl.map fun t => V.ref t.1))
  ta : τ a = [2, 100]
  len : hl.length = Ls.length
  get : ∀ (k : Nat) (t : Addr × Addr × Addr) (L : L10), hl[k]? = some t → Ls[k]? = some L → Lh10 H t.1 t.2.1 t.2.2 L ∧ τ t.1 = [2, k] ∧ τ t.2.1 = [0] ∧ τ t.2.2 = [0]
theorem Hl10.mv {τ τ' : Tg} {H H' : Hp} {a : Addr} {hl : List (Addr × Addr × Addr)} {Ls : List L10} (g : Hl10 τ H a hl Ls) (q : Mv 2 τ H τ' H') : Hl10 τ' H' a hl Ls := by
  have e := q.keep _ _ g.ea (.inr (by rw [g.ta]; rfl))
  refine ⟨e.1, e.2.trans g.ta, g.len, fun k t L h1 h2 => ?_⟩
  obtain ⟨lh, t1, t2, t3⟩ := g.get k t L h1 h2
  have a1 := q.keep _ _ lh.h (.inr (by rw [t1]; rfl))
  have a3 := q.keep _ _ lh.s (.inl t3)
  have p' : PsAt H' t.2.1 L.ps := lh.p.keep (fun o e => (q.keep _ _ e (.inl t2)).1) q.tup
  obtain ⟨ts, ep, _⟩ := lh.p
  exact ⟨⟨a1.1, p', a3.1⟩, a1.2.trans t1, (q.keep _ _ ep (.inl t2)).2.trans t2, a3.2.trans t3⟩
theorem Hl10.same {τ : Tg} {H H' : Hp} {a : Addr} {hl : List (Addr × Addr × Addr)} {Ls : List L10} (g : Hl10 τ H a hl Ls) (k : Same H H') : Hl10 τ H' a hl Ls := g.mv (Mv.of_same k)
structure Go10 (S : WkS) (Ls : List L10) : Prop where
  len : S.hs.length = Ls.length
  is : ∀ (k : Nat) (s : HandS) (L : L10), S.hs[k]? = some s → Ls[k]? = some L → Is10 L s
  sy : ∀ L ∈ Ls, L.sy.length ≤ 2000
  l3 : Ls.length ≤ 3
def spTold10 (CW CH : Addr) (K : PySem.W.Frag) : Sp := fun vs H Q _ => ∃ (i : Nat) (τ : Tg) (W : WAd) (S : WkS) (a : Addr) (hl : List (Addr × Addr × Addr)) (Ls : List L10), vs = [.ref W.o, .ref a] ∧ WAt CW CH i τ H W S ∧ Hl10 τ H a hl Ls ∧ Go10 S Ls ∧ ∀ H', Same H H' → Q (.bl true) H'
theorem ok_told10 {C_Works C_Hand C_NoHand : Addr} {f : Addr} {fd : FuncData} (F : Fun K "_law_told" "_law_told" s_Ltold f fd) (F_Lalike : FnAt P w K mg base 5 "_law_alike" ["found", "due"] (spAlike 4 K)) (M_Works_boxes : MethAt P w K mg base 4 C_Works "boxes" ["self", "hand"] (fun vs H Q _ => spTold HandS.bs C_Works C_Hand C_NoHand K vs H Q fun _ _ _ => False)) (M_Works_said : MethAt P w K mg base 4 C_Works "said" ["self", "hand"] (fun vs H Q _ => spTold HandS.sy C_Works C_Hand C_NoHand K vs H Q fun _ _ _ => False)) (M_Works_how : MethAt P w K mg base 4 C_Works "how" ["self", "hand"] (fun vs H Q _ => spHow C_Works C_Hand C_NoHand K vs H Q fun _ _ _ => False)) (Z_Works : Cl_Works K C_Works) (Bt : Blt mg) : FnOk P w K mg base CX0 6 f fd ["one", "hands"] (spTold10 C_Works C_Hand K) := by
  refine F.ok sc_Ltold (fun vs H Q E h => ?_) (fun cdv A outer s H vs Q E hr h => ?_)
  · obtain ⟨i, τ, W, S, a, hl, Ls, rfl, _⟩ := h
    rfl
  · obtain ⟨i, τ, W, S, a, hl, Ls, rfl, w, hh, G, k⟩ := h
    refine ⟨_, (pss_cons (ps_for PassesOwn.never rfl (pi_range1 (by rfl) Bt.b_range (pa_cons (pe_callB (call_len_seqK (K := K) rfl) (by rfl) Bt.b_len bt_len (pa_cons (pv 1) pa_nil)) pa_nil)) (pg_name (i := 2) sc_Ltold.nd rfl (Or.inl rfl))
      (pss_cons (ps_if (PW.pt (pw_or (pt_not (pt_val (pe_fn F_Lalike (hr.mono (by decide)) (by rfl) (pa_cons (pe_methA M_Works_how Z_Works.cls (hr.mono (by decide)) (pv 0) (pa_cons (pv 2) pa_nil)) (pa_cons (pe_ix (ix_listK (K := K) rfl) (pe_ix (ix_listK (K := K) rfl) (pv 1) (pv 2) (fun _ _ => rfl)) pe_int (fun _ _ => rfl)) pa_nil))))) (pw_or1 (pt_not (pt_val (pe_fn F_Lalike (hr.mono (by decide)) (by rfl) (pa_cons (pe_methA M_Works_said Z_Works.cls (hr.mono (by decide)) (pv 0) (pa_cons (pv 2) pa_nil)) (pa_cons (pe_ix (ix_listK (K := K) rfl) (pe_ix (ix_listK (K := K) rfl) (pv 1) (pv 2) (fun _ _ => rfl)) pe_int (fun _ _ => rfl)) pa_nil)))))))) (pss_one (ps_ret pe_bl)) pss_nil)
      (pss_one (ps_if (pt_not (pt_val (pe_fn F_Lalike (hr.mono (by decide)) (by rfl) (pa_cons (pe_methA M_Works_boxes Z_Works.cls (hr.mono (by decide)) (pv 0) (pa_cons (pv 2) pa_nil)) (pa_cons (pe_op op_cat (pe_lst (pa_cons (pe_ix (ix_listK (K := K) rfl) (pe_ix (ix_listK (K := K) rfl) (pv 1) (pv 2) (fun _ _ => rfl)) pe_int (fun _ _ => rfl)) pa_nil)) (pe_op op_rep (pe_lst (pa_cons pe_int pa_nil)) pe_int)) pa_nil))))) (pss_one (ps_ret pe_bl)) pss_nil))))
      (pss_one (ps_ret pe_bl))), ?_⟩
    have l3 := G.l3
    refine ⟨_, rfl, a, _, rfl, .inl (SqL.of hh.ea), _, rfl, by rw [List.length_map, hh.len]; omega, by rw [List.length_map, hh.len]; omega, ?_⟩
    rw [List.length_map, hh.len, Int.toNat_natCast]
    refine for_range (lo := 0) (n := Ls.length) (fun j σ Hc => (∃ x1 : Option V, σ = [some (.ref W.o), some (.ref a), x1]) ∧ Same H Hc) ⟨⟨_, rfl⟩, Same.refl _⟩ ?_ ?_
    · rintro j σ Hc hj ⟨⟨x1, rfl⟩, sc⟩
      have ez : (0 : Int) + (j : Int) = (j : Int) := by omega
      have eL : Ls[j]? = some Ls[j] := by simp [hj]
      obtain ⟨t, et⟩ : ∃ t, hl[j]? = some t := ⟨_, List.getElem?_eq_getElem (by rw [hh.len]; exact hj)⟩
      obtain ⟨sj, es⟩ : ∃ sj, S.hs[j]? = some sj := ⟨_, List.getElem?_eq_getElem (by rw [G.len]; exact hj)⟩
      have I := G.is j sj Ls[j] es eL
      have syl := G.sy Ls[j] (List.getElem_mem hj)
      have hc := hh.same sc
      obtain ⟨lh, _⟩ := hc.get j t Ls[j] et eL
      generalize Ls[j] = L at eL I syl lh
      have wc := w.same sc
      have inn : inP ((0 : Int) + (j : Int)) S.hs.length := by rw [G.len]; exact ⟨by omega, by omega⟩
      have one : ∀ (k' : Nat) (s' : HandS), (0 : Int) + (j : Int) = k' → S.hs[k']? = some s' → s' = sj := fun k' s' e1 e2 => by
        have : k' = j := by omega
        subst this
        rw [es] at e2
        exact (Option.some.inj e2).symm
      have ath : atI (hl.map fun t => V.ref t.1) ((0 : Int) + (j : Int)) = some (.ref t.1) := by rw [ez]; exact atI_nat (by rw [List.getElem?_map, et]; rfl)
      -- how
      refine ⟨_, rfl, W.o, W.dx, _, rfl, wc.o, rfl, _, rfl, i, τ, W, S, _, rfl, wc, fun k3 t3 e3 e3' => ?_, fun z => absurd inn z⟩
      obtain rfl := one k3 t3 e3 e3'
      refine ⟨_, rfl, _, rfl, _, _, _, _, rfl, rfl, SqL.of hc.ea, ath, _, _, _, _, rfl, rfl, SqL.of lh.h, rfl, _, _, .str L.st, rfl, (by simp only [Dat]; rw [I.st]), (by simp only [Dat]), trivial, fun H1 s1 => ⟨_, rfl, iteF ?_⟩⟩
      -- said
      have w1 := wc.same s1
      refine ⟨_, rfl, W.o, W.dx, _, rfl, w1.o, rfl, _, rfl, i, τ, W, S, _, rfl, w1, fun k4 t4 l4 H2 e4 e4' f4 h4 s2 => ?_, fun z => absurd inn z⟩
      obtain rfl := one k4 t4 e4 e4'
      rw [I.sy] at h4
      have s12 := s1.trans s2
      refine ⟨_, rfl, _, rfl, _, _, _, _, rfl, rfl, SqL.of (s12 _ _ hc.ea), ath, _, _, _, _, rfl, rfl, SqL.of (s12 _ _ lh.h), rfl, _, _, _, rfl, dat_ints h4, dat_ints (s12 _ _ lh.s), PlA.ints (by omega), fun H3 s3 => ⟨_, rfl, iteF ?_⟩⟩
      -- boxes
      have s13 := s12.trans s3
      have w3 := wc.same s13
      refine ⟨_, rfl, W.o, W.dx, _, rfl, w3.o, rfl, _, rfl, i, τ, W, S, _, rfl, w3, fun k5 t5 l5 H4 e5 e5' f5 h5 s4 => ?_, fun z => absurd inn z⟩
      obtain rfl := one k5 t5 e5 e5'
      rw [I.bs] at h5
      have s14 := s13.trans s4
      refine ⟨_, rfl, _, rfl, _, _, _, _, rfl, rfl, SqL.of (s14 _ _ hc.ea), ath, _, _, _, _, rfl, rfl, SqL.of (s14 _ _ lh.h), rfl, (by show 1 ≤ sizeLine; decide), fun b1 hb1 => ?_⟩
      have sb1 := same_new (o := HO.lst [V.int (L.a : Int)]) hb1
      refine ⟨(by show 1 ≤ sizeLine; decide), fun z hz => ?_⟩
      have sz := same_new (o := HO.lst [V.int 0]) hz
      refine ⟨z, _, _, rfl, rfl, upd_same, by decide, by decide, by show 1 * 7 ≤ sizeLine; decide, fun b2 hb2 => ?_⟩
      have sb2 := same_new (o := HO.lst (List.replicate (7 : Int).toNat [V.int 0]).flatten) hb2
      refine ⟨b1, b2, _, _, rfl, rfl, sb2 _ _ (sz _ _ upd_same), upd_same, (by show 1 + 7 ≤ sizeLine; decide), fun b3 hb3 => ?_⟩
      have sb3 := same_new (o := HO.lst ([V.int (L.a : Int)] ++ (List.replicate (7 : Int).toNat [V.int 0]).flatten)) hb3
      have s5 := ((sb1.trans sz).trans sb2).trans sb3
      refine ⟨_, _, _, rfl, dat_ints (s5 _ _ h5), dat_ints (ns := (L.a : Int) :: List.replicate 7 0) upd_same, PlA.ints (by simp), fun H6 s6 => ⟨_, rfl, iteF ?_⟩⟩
      exact ⟨⟨_, rfl⟩, (sc.trans s14).trans (s5.trans s6)⟩
    · rintro σ Hc ⟨⟨x1, rfl⟩, sc⟩
      exact k Hc sc
def spOver10 (CW CH : Addr) (K : PySem.W.Frag) : Sp := fun vs H Q _ => ∃ (i : Nat) (τ : Tg) (W : WAd) (S : WkS) (k : Nat) (s : HandS), vs = [.ref W.o, .int k] ∧ WAt CW CH i τ H W S ∧ S.ts.length ≤ 10000 ∧ S.hs[k]? = some s ∧ s.st ≠ "waits" ∧ ∀ H', Same H H' → Q (.bl true) H'
theorem ok_over10 {C_Works C_Hand : Addr} {f : Addr} {fd : FuncData} (F : Fun K "_law_over" "_law_over" s_Lover f fd) {C_NoNumber C_NoHand C_Over C_NoteError : Addr} (X_NoNumber : Xr K mg C_NoNumber "NoNumber") (X_NoHand : Xr K mg C_NoHand "NoHand") (X_Over : Xr K mg C_Over "Over") (O_NoteError : Xo K mg C_NoNumber C_NoteError "NoteError" true) (Q_NoNumber_NoHand : XPair K C_NoNumber C_NoHand false) (Q_NoNumber_Over : XPair K C_NoNumber C_Over false) (Q_NoHand_NoNumber : XPair K C_NoHand C_NoNumber false) (Q_NoHand_Over : XPair K C_NoHand C_Over false) (Q_NoHand_NoteError : XPair K C_NoHand C_NoteError true) (Q_Over_NoNumber : XPair K C_Over C_NoNumber false) (Q_Over_NoHand : XPair K C_Over C_NoHand false) (Q_Over_NoteError : XPair K C_Over C_NoteError true) (xsf : PySem.W.subIn K (.ref C_Over) (.ref C_Over) = some true) (M_Works_turn : MethAtX P w K mg base 7 C_Works "turn" ["self", "hand"] (spTurn C_Works C_Hand C_NoHand C_Over K)) (Z_Works : Cl_Works K C_Works) (Bt : Blt mg) : FnOk P w K mg base CX0 8 f fd ["one", "k"] (spOver10 C_Works C_Hand K) := by
  refine F.ok sc_Lover (fun vs H Q E h => ?_) (fun cdv A outer s H vs Q E hr h => ?_)
  · obtain ⟨i, τ, W, S, k, s, rfl, _⟩ := h
    rfl
  · obtain ⟨i, τ, W, S, kk, s, rfl, w, tl, es, ns, k⟩ := h
    refine ⟨_, (pss_cons (ps_set (i := 2) sc_Lover.nd rfl (Or.inl rfl) pe_non)
      (pss_cons (ps_try (i := 3) rfl rfl rfl rfl sc_Lover.nd rfl rfl (by rfl) X_Over.bd X_Over.hd (fun _ _ _ _ hR => (pss_one (ps_expr (pe_methX M_Works_turn Z_Works.cls rfl hR (hr.mono (by decide)) (pv 0) (pa_cons (pv 1) pa_nil))))) (fun _ => (pss_one (ps_set (i := 2) sc_Lover.nd rfl (Or.inl rfl) (pv 3)))))
      (pss_one (ps_ret (pe_callB (call_isX (K := K) (c := .ref C_Over) (cv := .ref C_Over) rfl (fun _ h => h)) (by rfl) Bt.b_isinstance bt_isinstance (pa_cons (pv 2) (pa_cons (pe_glob (v := .ref C_Over) (by rfl) X_Over.bd rfl) pa_nil))))))), ?_⟩
    have kl := (List.getElem?_eq_some_iff.mp es).1
    have one : ∀ (k' : Nat) (s' : HandS), (kk : Int) = k' → S.hs[k']? = some s' → s' = s := fun k' s' e1 e2 => by
      have : k' = kk := by omega
      subst this
      rw [es] at e2
      exact (Option.some.inj e2).symm
    refine ⟨_, rfl, W.o, W.dx, _, rfl, w.o, rfl, _, rfl, i, τ, W, S, kk, rfl, w, tl, fun k' s' r t H' e1 e2 wt => absurd (by rw [← one k' s' e1 e2]; exact wt) ns, fun z => absurd (show inP (kk : Int) S.hs.length from ⟨by omega, by omega⟩) z, fun k' s' e1 e2 _ => ⟨_, rfl, xsf, fun e he => ?_⟩⟩
    have se := same_new (o := XO C_Over none e) he
    refine ⟨_, rfl, ?_⟩
    exact ⟨_, rfl, e, _, true, rfl, upd_same, X_Over.xc, kit_same, k _ se⟩

theorem turn_go {CW CH CN CO : Addr} {i : Nat} {τ : Tg} {H : Hp} {W : WAd} {S : WkS} {k : Nat} {s : HandS} {Q : VK} (w : WAt CW CH i τ H W S) (tl : S.ts.length ≤ 10000) (es : S.hs[k]? = some s) (ws : s.st = "waits")
    (go : ∀ (r : Rw) (t : Addr) (H' : Hp), s.rws[s.pos]? = some r → touch r = true → H t = none → H' t = some (.tup (touchV S.ns s.bs r)) → WAt CW CH i τ H' W (turnS S k) → Stp i τ H H' → Q (.ref t) H') : spTurn CW CH CN CO K [.ref W.o, .int k] H Q (fun _ _ _ => False) := by
  have kl := (List.getElem?_eq_some_iff.mp es).1
  have inn : inP (k : Int) S.hs.length := ⟨by omega, by omega⟩
  have one : ∀ (k' : Nat) (t : HandS), (k : Int) = k' → S.hs[k']? = some t → t = s ∧ k' = k := fun k' t e1 e2 => by
    have : k' = k := by omega
    subst this
    rw [es] at e2
    exact ⟨(Option.some.inj e2).symm, rfl⟩
  refine ⟨i, τ, W, S, _, rfl, w, tl, fun k' t' r' tt Hk e1 e2 wt' er' tr' tf tk wk stk => ?_, fun z => absurd inn z, fun k' t' e1 e2 z => absurd (by rw [(one k' t' e1 e2).1]; exact ws) z⟩
  obtain ⟨rfl, rfl⟩ := one k' t' e1 e2
  exact go r' tt Hk er' tr' tf tk wk stk

theorem Mv.of_stpT {i j : Nat} {τ τ' : Tg} {H H' : Hp} (k : Stp j τ H H') (h : j ≠ i) (h0 : j ≠ 0) (t : ∀ x u, H x = some u → τ' x = τ x) : Mv i τ H τ' H' := ⟨fun x o e q => ⟨((Mv.of_stp (i := i) k h h0).keep x o e q).1, t x o e⟩, k.tup⟩
theorem RT.madeT {τ τ' : Tg} {H H' : Hp} {r : Addr} {j : Nat} (h : RT τ H r) (k : Stp j τ H H') (t : ∀ x u, H x = some u → τ' x = τ x) (un : Unt τ' H') : RT τ' H' r := by
  have h' := h.stp k
  refine ⟨h'.R, fun x o e n => ?_, un⟩
  cases q : H x with
  | some u => exact h'.off x o e (by rw [← t x u q]; exact n)
  | none =>
    obtain ⟨g, c, gs, cs, p, tt, e1, e2, e3, q'⟩ := h.R
    refine ⟨(ne_of_none e1 q).symm, fun g' c' u v e' => ?_⟩
    have tr : τ r = [] := by
      by_cases z : τ r = []
      · exact z
      · exact absurd rfl (h.off r _ e1 z).1
    rw [k.keep _ _ e1 (by rw [tr]; simp)] at e'
    cases e'
    exact ⟨(fun z => by rw [z, e2] at q; cases q), (fun z => by rw [z, e3] at q; cases q)⟩

def spLaw (K : PySem.W.Frag) : Sp := fun vs H Q _ => ∃ (a : Addr) (ns : List Int), vs = [.ref a] ∧ SqL K H a (ns.map V.int) ∧ ns.length ≤ 63 ∧ ∀ H', Q (.bl true) H'
def new10 (ps : List Pt10) (last : Bool) : L10 := ⟨ps, last, 0, 0, [], Str.ofString ""⟩
theorem Mv.retag {i : Nat} {τ : Tg} {H : Hp} {p : Addr} {t : List Nat} (h0 : τ p ≠ [0]) (hi : (τ p).head? ≠ some i) : Mv i τ H (tgSet τ p t) H := ⟨fun x o e q => ⟨e, tgSet_ne fun z => by
  rw [z] at q
  rcases q with q | q
  · exact h0 q
  · exact hi q⟩, fun x xs e => e⟩
theorem RT.retag {τ : Tg} {H : Hp} {r p : Addr} {t : List Nat} {o : HO} (h : RT τ H r) (e : H p = some o) (hn : τ p ≠ []) : RT (tgSet τ p t) H r := by
  refine ⟨h.R, fun x u ex nx => ?_, fun x ex => ?_⟩
  · by_cases z : x = p
    · rw [z] at ex ⊢; exact h.off p u ex hn
    · rw [tgSet_ne z] at nx; exact h.off x u ex nx
  · have z : x ≠ p := fun z => by rw [z, e] at ex; cases ex
    rw [tgSet_ne z]; exact h.un x ex
theorem say10_len (p : Pt10) (ok : ok10 p) : (say10 p).length ≤ 66 := by
  unfold say10
  have : gone10 p ≤ 60 := Nat.min_le_left _ _
  rw [List.length_append, List.length_replicate]
  unfold rngI
  rw [List.length_map, List.length_range]
  obtain ⟨a, _⟩ := ok
  omega
theorem led10_sy (L : L10) (ok : ∀ p ∈ L.ps, ok10 p) : (led10 L).sy.length ≤ L.sy.length + 66 := by
  unfold led10
  split
  · simp
  · rename_i p e
    have := say10_len p (ok p (List.mem_of_getElem? e))
    show (L.sy ++ say10 p).length ≤ _
    rw [List.length_append]; omega
theorem led10_ps (L : L10) : (led10 L).ps = L.ps ∧ (led10 L).last = L.last ∧ (led10 L).n = L.n := by
  unfold led10
  split <;> exact ⟨rfl, rfl, rfl⟩
/-- one hand of the law's is written -/
theorem Hl10.put {τ : Tg} {H H' : Hp} {a : Addr} {hl : List (Addr × Addr × Addr)} {Ls : List L10} {j : Nat} {t : Addr × Addr × Addr} {L L' : L10} {sl' : Addr} (g : Hl10 τ H a hl Ls) (et : hl[j]? = some t) (eL : Ls[j]? = some L) (l3 : Ls.length ≤ 50) (lh : Lh10 H' t.1 t.2.1 sl' L') (kp : Kp t.1 H H') (c : sl' = t.2.2 ∨ H sl' = none) (ex : ∃ o, H' sl' = some o) :
    Hl10 (tgSet τ sl' [0]) H' a (hl.set j (t.1, t.2.1, sl')) (Ls.set j L') ∧ Stp 2 τ H H' ∧ (∀ x u, H x = some u → tgSet τ sl' [0] x = τ x) ∧ (Unt τ H → Unt (tgSet τ sl' [0]) H') := by
  obtain ⟨q, t1, t2, t3⟩ := g.get j t L et eL
  have jl := (List.getElem?_eq_some_iff.mp eL).1
  have tg : ∀ x u, H x = some u → tgSet τ sl' [0] x = τ x := fun x u e => by
    by_cases z : x = sl'
    · rcases c with c | c
      · rw [z, c, tgSet_same, t3]
      · rw [z, c] at e; cases e
    · exact tgSet_ne z
  have st : Stp 2 τ H H' := by
    refine ⟨fun x o e n => kp _ _ e fun z => n (by rw [z, t1]; rfl), fun x xs e => kp _ _ e (ne_of e q.h (by intro z; cases z)), fun x e => ?_⟩
    cases hx : H x with
    | none => rfl
    | some o =>
      by_cases z : x = t.1
      · rw [z, lh.h] at e; cases e
      · rw [kp _ _ hx z] at e; cases e
  have un : Unt τ H → Unt (tgSet τ sl' [0]) H' := fun u x e => by
    have nz : x ≠ sl' := fun z => by
      obtain ⟨o, ho⟩ := ex
      rw [z, ho] at e; cases e
    rw [tgSet_ne nz]
    exact u x (st.dom x e)
  have na : a ≠ t.1 := ne_tag g.ta t1 (by intro z; simp at z; omega)
  have ht : hl.set j (t.1, t.2.1, sl') = hl.set j (t.1, t.2.1, sl') := rfl
  have em : (hl.set j (t.1, t.2.1, sl')).map (fun t => V.ref t.1) = hl.map fun t => V.ref t.1 := by
    rw [List.map_set]
    refine List.ext_getElem? fun n => ?_
    rw [List.getElem?_set]
    split
    · rename_i z
      subst z
      have : j < (hl.map fun t => V.ref t.1).length := by rw [List.length_map, g.len]; exact jl
      rw [if_pos this, List.getElem?_map, et]
      rfl
    · rfl
  refine ⟨⟨by rw [em]; exact kp _ _ g.ea na, by rw [tg _ _ g.ea]; exact g.ta, by simp [g.len], fun k t' L'' h1 h2 => ?_⟩, st, tg, un⟩
  rw [List.getElem?_set] at h1 h2
  by_cases z : j = k
  · subst z
    rw [if_pos rfl, if_pos (by rw [g.len]; exact jl)] at h1
    rw [if_pos rfl, if_pos jl] at h2
    cases h1
    cases h2
    obtain ⟨ts, ep, _⟩ := q.p
    exact ⟨lh, by rw [tg _ _ q.h]; exact t1, by rw [tg _ _ ep]; exact t2, tgSet_same⟩
  · rw [if_neg z] at h1 h2
    obtain ⟨q', t1', t2', t3'⟩ := g.get k t' L'' h1 h2
    obtain ⟨ts, ep, _⟩ := id q'.p
    have n1 : t'.1 ≠ t.1 := ne_tag t1' t1 (by intro y; simp at y; omega)
    have n2 : t'.2.1 ≠ t.1 := ne_tag t2' t1 (by simp)
    have n3 : t'.2.2 ≠ t.1 := ne_tag t3' t1 (by simp)
    exact ⟨⟨kp _ _ q'.h n1, q'.p.keep (fun o e => kp _ _ e n2) st.tup, kp _ _ q'.s n3⟩, by rw [tg _ _ q'.h]; exact t1', by rw [tg _ _ ep]; exact t2', by rw [tg _ _ q'.s]; exact t3'⟩
theorem set_keys {hl : List (Addr × Addr × Addr)} {j : Nat} {t : Addr × Addr × Addr} {b c : Addr} (et : hl[j]? = some t) : (hl.set j (t.1, b, c)).map (fun t => V.ref t.1) = hl.map fun t => V.ref t.1 := by
  obtain ⟨jl, e⟩ := List.getElem?_eq_some_iff.mp et
  rw [List.map_set]
  refine List.ext_getElem? fun n => ?_
  rw [List.getElem?_set]
  split
  · rename_i z
    subst z
    rw [if_pos (by rw [List.length_map]; exact jl), List.getElem?_map, et]
    rfl
  · rfl
def ledTo (Ls : List L10) (j : Nat) : List L10 := (Ls.take j).map led10 ++ Ls.drop j
theorem ledTo_at {Ls : List L10} {j : Nat} (h : j < Ls.length) : (ledTo Ls j)[j]? = some Ls[j] := by
  unfold ledTo
  rw [List.getElem?_append_right (by rw [List.length_map, List.length_take]; omega), List.length_map, List.length_take, Nat.min_eq_left (by omega), Nat.sub_self, List.getElem?_drop]
  simp [h]
theorem ledTo_set {Ls : List L10} {j : Nat} (h : j < Ls.length) : (ledTo Ls j).set j (led10 Ls[j]) = ledTo Ls (j + 1) := by
  unfold ledTo
  have e1 : ((Ls.take j).map led10).length = j := by rw [List.length_map, List.length_take]; omega
  rw [List.set_append_right _ _ (by omega), e1, Nat.sub_self, List.drop_eq_getElem_cons h, List.set_cons_zero, List.take_succ, List.map_append, List.append_assoc]
  simp [h]
theorem ledTo_len (Ls : List L10) (j : Nat) (h : j ≤ Ls.length) : (ledTo Ls j).length = Ls.length := by
  unfold ledTo
  rw [List.length_append, List.length_map, List.length_take, List.length_drop]
  omega

theorem ok_law {C_Works C_Hand C_NoHand C_NoNumber C_Over : Addr} {f : Addr} {fd : FuncData} (F : Fun K "law" "law" s_law f fd) (F_Lreel : FnAt P w K mg base 1 "_law_reel" ["script"] (spReelP K)) (F_Ldraw : FnAt P w K mg base 1 "_law_draw" ["reel", "many"] (spDrawP K)) (F_Lalike : FnAt P w K mg base 5 "_law_alike" ["found", "due"] (spAlike 4 K)) (F_Lpart : FnAt P w K mg base 2 "_law_part" ["reel"] (spPart K)) (F_Lrows : FnAt P w K mg base 1 "_law_rows" ["parts", "last"] (spRows10 K)) (F_Lled : FnAt P w K mg base 1 "_law_led" ["hand"] (spLed10 K)) (F_Ltold : FnAt P w K mg base 6 "_law_told" ["one", "hands"] (spTold10 C_Works C_Hand K)) (F_Lover : FnAt P w K mg base 8 "_law_over" ["one", "k"] (spOver10 C_Works C_Hand K)) (N_Works1 : MakeAt P w K mg base 7 C_Works "Works" ["self", "program", "cells"] [.non] (fun vs H Q _ => spWInit C_Works C_Hand C_NoNumber K vs H Q fun _ _ _ => False)) (M_Works_turn : MethAt P w K mg base 7 C_Works "turn" ["self", "hand"] (fun vs H Q _ => spTurn C_Works C_Hand C_NoHand C_Over K vs H Q fun _ _ _ => False)) (Z_Works : Cl_Works K C_Works) (Bt : Blt mg) : FnOk P w K mg base CX0 9 f fd ["script"] (spLaw K) := by
  refine F.ok sc_law (fun vs H Q E h => ?_) (fun cdv A outer s H vs Q E hr h => ?_)
  · obtain ⟨a, ns, rfl, _⟩ := h
    rfl
  · obtain ⟨sc, ns0, rfl, hs0, hlen, fin⟩ := h
    refine ⟨_, (pss_cons (ps_set (i := 1) sc_law.nd rfl (Or.inr rfl) (pe_fn F_Lreel (hr.mono (by decide)) (by rfl) (pa_cons (pv 0) pa_nil)))
      (pss_cons (ps_set (i := 2) sc_law.nd rfl (Or.inl rfl) (pe_lst pa_nil))
      (pss_cons (ps_for PassesOwn.never rfl (pi_range1 (by rfl) Bt.b_range (pa_cons (pe_op op_add pe_int (pe_fn F_Ldraw (hr.mono (by decide)) (by rfl) (pa_cons (pv 1) (pa_cons pe_int pa_nil)))) pa_nil)) (pg_name (i := 3) sc_law.nd rfl (Or.inl rfl))
      (pss_cons (ps_set (i := 4) sc_law.nd rfl (Or.inl rfl) (pe_cmpR op_eq (pe_fn F_Ldraw (hr.mono (by decide)) (by rfl) (pa_cons (pv 1) (pa_cons pe_int pa_nil))) pe_int (nomark _)))
      (pss_one (ps_expr (pe_appendK (K := K) rfl (pv 2) (pa_cons (pe_lst (pa_cons (pe_comp rfl (N := ["at", "reel"]) (own := ["at"]) (caps := [1]) (CompScope.of (by kernel_rfl)) (pi_range1 (by rfl) Bt.b_range (pa_cons (pe_op op_add pe_int (pe_fn F_Ldraw (hr.mono (by decide)) (by rfl) (pa_cons (pv 1) (pa_cons pe_int pa_nil)))) pa_nil)) (fun _ _ _ _ => (pg_name (i := 0) (show List.Nodup (["at", "reel"] : List Str) by decide +kernel) rfl (Or.inl rfl))) (fun _ _ _ _ => pts_nil) (fun _ _ _ _ => (pe_fn F_Lpart (hr.mono (by decide)) (by rfl) (pa_cons (pv 1) pa_nil)))) (pa_cons (pv 4) (pa_cons pe_int (pa_cons pe_int (pa_cons (pe_lst pa_nil) (pa_cons pe_str pa_nil))))))) pa_nil))))))
      (pss_cons (ps_set (i := 5) sc_law.nd rfl (Or.inl rfl) (pe_makeA N_Works1 (hr.mono (by decide)) (by rfl) (pa_cons (pe_tup (pa_cons pe_int (pa_cons (pe_comp rfl (N := ["hand"]) (own := ["hand"]) (caps := []) (CompScope.of (by kernel_rfl)) (pi_listK (K := K) rfl (pv 2)) (fun _ _ _ _ => (pg_name (i := 0) (show List.Nodup (["hand"] : List Str) by decide +kernel) rfl (Or.inl rfl))) (fun _ _ _ _ => pts_nil) (fun _ _ _ _ => (pe_fn F_Lrows (hr.mono (by decide)) (by rfl) (pa_cons (pe_ix (ix_listK (K := K) rfl) (pv 0) pe_int (fun _ _ => rfl)) (pa_cons (pe_ix (ix_listK (K := K) rfl) (pv 0) pe_int (fun _ _ => rfl)) pa_nil))))) pa_nil))) pa_nil)))
      (pss_cons (ps_for PassesOwn.never rfl (pi_listK (K := K) rfl (pv 2)) (pg_name (i := 6) sc_law.nd rfl (Or.inl rfl))
      (pss_one (ps_expr (pe_fn F_Lled (hr.mono (by decide)) (by rfl) (pa_cons (pv 6) pa_nil)))))
      (pss_cons (ps_for PassesOwn.never rfl (pi_range1 (by rfl) Bt.b_range (pa_cons pe_int pa_nil)) (pg_name (i := 7) sc_law.nd rfl (Or.inl rfl))
      (pss_cons (ps_if (pt_not (pt_val (pe_fn F_Ltold (hr.mono (by decide)) (by rfl) (pa_cons (pv 5) (pa_cons (pv 2) pa_nil))))) (pss_one (ps_ret pe_bl)) pss_nil)
      (pss_cons (ps_set (i := 3) sc_law.nd rfl (Or.inl rfl) (pe_fn F_Ldraw (hr.mono (by decide)) (by rfl) (pa_cons (pv 1) (pa_cons (pe_callB (call_len_seqK (K := K) rfl) (by rfl) Bt.b_len bt_len (pa_cons (pv 2) pa_nil)) pa_nil))))
      (pss_one (ps_if (pt_cmpR op_eq (pe_ix (ix_listK (K := K) rfl) (pe_ix (ix_listK (K := K) rfl) (pv 2) (pv 3) (fun _ _ => rfl)) pe_int (fun _ _ => rfl)) pe_str (nomark _)) (pss_cons (ps_if (pt_not (pt_val (pe_fn F_Lalike (hr.mono (by decide)) (by rfl) (pa_cons (pe_methA M_Works_turn Z_Works.cls (hr.mono (by decide)) (pv 5) (pa_cons (pv 3) pa_nil)) (pa_cons (pe_tup (pa_cons pe_str (pa_cons pe_int (pa_cons pe_non (pa_cons (pe_ix (ix_listK (K := K) rfl) (pe_ix (ix_listK (K := K) rfl) (pv 2) (pv 3) (fun _ _ => rfl)) pe_int (fun _ _ => rfl)) pa_nil))))) pa_nil))))) (pss_one (ps_ret pe_bl)) pss_nil)
      (pss_cons (ps_asg (pe_op op_add (pe_ix (ix_listK (K := K) rfl) (pe_ix (ix_listK (K := K) rfl) (pv 2) (pv 3) (fun _ _ => rfl)) pe_int (fun _ _ => rfl)) pe_int) (pg_sub (pe_ix (ix_listK (K := K) rfl) (pv 2) (pv 3) (fun _ _ => rfl)) pe_int set_list))
      (pss_one (ps_expr (pe_fn F_Lled (hr.mono (by decide)) (by rfl) (pa_cons (pe_ix (ix_listK (K := K) rfl) (pv 2) (pv 3) (fun _ _ => rfl)) pa_nil)))))) (pss_one (ps_if (pt_not (pt_val (pe_fn F_Lover (hr.mono (by decide)) (by rfl) (pa_cons (pv 5) (pa_cons (pv 3) pa_nil))))) (pss_one (ps_ret pe_bl)) pss_nil)))))))
      (pss_one (ps_ret (pe_fn F_Ltold (hr.mono (by decide)) (by rfl) (pa_cons (pv 5) (pa_cons (pv 2) pa_nil))))))))))), ?_⟩
    refine ⟨_, rfl, sc, ns0, rfl, hs0, hlen, fun r H1 hr0 R1 s1 => ?_⟩
    have T1 : RT (fun _ => []) H1 r := ⟨R1, fun x o e n => absurd rfl n, fun x e => rfl⟩
    refine ⟨(by show 0 ≤ sizeLine; decide), fun a ha => ?_⟩
    have sa := same_new (o := HO.lst []) ha
    have Ta := T1.claim (t := [2, 100]) sa ha ⟨_, upd_same⟩
    have taa : tgSet (fun _ => []) a [2, 100] a = [2, 100] := tgSet_same
    have H0 : Hl10 (tgSet (fun _ => []) a [2, 100]) (upd H1 a (.lst [])) a [] [] := ⟨upd_same, taa, rfl, fun k t L e => by simp at e⟩
    generalize (upd H1 a (.lst [])) = Ha at Ta H0 ⊢
    generalize tgSet (fun _ => []) a [2, 100] = τa at Ta H0
    -- the hands
    refine ⟨_, rfl, r, 3, rfl, Ta.R, by decide, by decide, fun nh H2 n0 n1 R2 k2 => ⟨_, _, rfl, rfl, _, rfl, by omega, by omega, ?_⟩⟩
    have T2 := Ta.draw k2 R2
    have H2l := H0.mv (Ta.kr k2)
    obtain ⟨n, en, n1', n3⟩ : ∃ n : Nat, (1 : Int) + nh = n ∧ 0 < n ∧ n ≤ 3 := ⟨(1 + nh).toNat, by omega, by omega, by omega⟩
    rw [en, Int.toNat_natCast]
    refine for_range (lo := 0) (n := n) (fun j σ Hc => ∃ (v w' : Option V) (τc : Tg) (hl : List (Addr × Addr × Addr)) (Ls : List L10), σ = [some (.ref sc), some (.ref r), some (.ref a), v, w', none, none, none] ∧ RT τc Hc r ∧ Hl10 τc Hc a hl Ls ∧ Ls.length = j ∧ ∀ L ∈ Ls, ∃ ps last, L = new10 ps last ∧ 0 < ps.length ∧ ps.length ≤ 3 ∧ ∀ p ∈ ps, ok10 p)
      ⟨none, none, τa, [], [], rfl, T2, H2l, rfl, by simp⟩ ?_ ?_
    · rintro j σ Hc hj ⟨v, w', τc, hl, Ls, rfl, Tc, hh, lj, oL⟩
      refine ⟨_, rfl, r, 2, rfl, Tc.R, by decide, by decide, fun z H3 z0 z1 R3 k3 => ⟨rfl, ?_⟩⟩
      have T3 := Tc.draw k3 R3
      have h3 := hh.mv (Tc.kr k3)
      generalize decide (V.int z = V.int 1) = last
      refine ⟨_, rfl, .inl ⟨rfl, _, SqL.of h3.ea⟩, _, rfl, r, 3, rfl, R3, by decide, by decide, fun m H4 m0 m1 R4 k4 => ⟨_, _, rfl, rfl, _, rfl, by omega, by omega, fun D hD => ?_⟩⟩
      have T4 := T3.draw k4 R4
      have h4 := h3.mv (T3.kr k4)
      obtain ⟨np, enp, p1, p3⟩ : ∃ n : Nat, (1 : Int) + m = n ∧ 0 < n ∧ n ≤ 3 := ⟨(1 + m).toNat, by omega, by omega, by omega⟩
      rw [enp, Int.toNat_natCast]
      have sD := same_new (o := HO.lst []) hD
      have TD := T4.claim (t := [3]) sD hD ⟨_, upd_same⟩
      have hD5 := h4.mv (τ' := tgSet τc D [3]) (Mv.claim (t := [3]) sD hD)
      have tD : tgSet τc D [3] D = [3] := tgSet_same
      generalize tgSet τc D [3] = τd at TD hD5 tD
      refine comp_range (lo := 0) (n := np) (fun i σ Hd => ∃ (v : Option V) (ts : List Addr) (ps : List Pt10), σ = [v, some (.ref r)] ∧ RT τd Hd r ∧ Hl10 τd Hd a hl Ls ∧ Hd D = some (.lst (ts.map V.ref)) ∧ ts.length = i ∧ ps.length = i ∧ (∀ p ∈ ps, ok10 p) ∧ ∀ (k : Nat) (t : Addr) (p : Pt10), ts[k]? = some t → ps[k]? = some p → Hd t = some (.tup [.int p.1, .int p.2.1, .int p.2.2])) ?_ ?_ ?_
      · exact ⟨none, [], [], rfl, TD, hD5, upd_same, rfl, rfl, by simp, fun k t p e => by simp at e⟩
      · rintro i σ Hd hi ⟨v, ts, ps, rfl, Td, hd, eD, lt, lp, okp, gt⟩
        dsimp only [gName, tAll]
        rw [if_pos rfl]
        refine ⟨_, rfl, r, rfl, Td.R, fun t p H6 et op R6 k6 => ?_⟩
        have T6 := Td.draw k6 R6
        have hd6 := hd.mv (Td.kr k6)
        have eD6 := Td.keep k6 eD (by rw [tD]; simp)
        have st : Stp 3 τd H6 (upd H6 D (.lst (ts.map V.ref ++ [V.ref t]))) := Stp.set (by rw [tD]; rfl) eD6 (by intro xs z; cases z)
        refine ⟨_, eD6, (by rw [List.length_map, lt, sizeLine_eq]; omega), _, ts ++ [t], ps ++ [p], rfl, T6.set eD6 (by rw [tD]; simp), hd6.mv (Mv.of_stp st (by decide) (by decide)), by rw [upd_same, List.map_append]; rfl, by simp [lt], by simp [lp], ?_, fun k t' p' e1 e2 => ?_⟩
        · intro q hq
          rcases List.mem_append.mp hq with hq | hq
          · exact okp q hq
          · rw [List.mem_singleton.mp hq]; exact op
        · rcases get_snoc e1 with e1 | ⟨ek, rfl⟩
          · have kl := (List.getElem?_eq_some_iff.mp e1).1
            rw [List.getElem?_append_left (by omega)] at e2
            exact st.tup _ _ (k6.tups Td.R _ _ (gt k t' p' e1 e2))
          · rcases get_snoc e2 with e2 | ⟨_, rfl⟩
            · have := (List.getElem?_eq_some_iff.mp e2).1; omega
            · exact st.tup _ _ et
      rintro σ H5 ⟨v, ts, ps, rfl, T5, h5, eD, lt, lp, okp, gt⟩
      have T5' := T5.retag (t := [0]) eD (by rw [tD]; simp)
      have h5' := h5.mv (τ' := tgSet τd D [0]) (Mv.retag (t := [0]) (by rw [tD]; decide) (by rw [tD]; decide))
      have tD0 : tgSet τd D [0] D = [0] := tgSet_same
      generalize tgSet τd D [0] = τe at T5' h5' tD0
      clear T5 h5
      refine ⟨_, rfl, (by show 0 ≤ sizeLine; decide), fun sl hsl => ?_⟩
      have ssl := same_new (o := HO.lst []) hsl
      have T6 := T5'.claim (t := [0]) ssl hsl ⟨_, upd_same⟩
      have h6 := h5'.mv (τ' := tgSet τe sl [0]) (Mv.claim (t := [0]) ssl hsl)
      have tsl : tgSet τe sl [0] sl = [0] := tgSet_same
      have tD6 : tgSet τe sl [0] D = [0] := by rw [tgSet_ne (ne_of_none eD hsl)]; exact tD0
      have esl : (upd H5 sl (.lst [])) sl = some (.lst []) := upd_same
      have eD6 := ssl _ _ eD
      have gt6 : ∀ (k : Nat) (t : Addr) (p : Pt10), ts[k]? = some t → ps[k]? = some p → (upd H5 sl (.lst [])) t = some (.tup [.int p.1, .int p.2.1, .int p.2.2]) := fun k t p e1 e2 => ssl _ _ (gt k t p e1 e2)
      generalize (upd H5 sl (.lst [])) = H6 at T6 h6 esl eD6 gt6 ⊢
      generalize tgSet τe sl [0] = τ6 at T6 h6 tsl tD6
      refine ⟨(by show 6 ≤ sizeLine; decide), fun h hh6 => ?_⟩
      have sh := same_new (o := HO.lst [V.ref D, V.bl last, V.int 0, V.int 0, V.ref sl, V.str (Str.ofString "")]) hh6
      have T7 := T6.claim (t := [2, j]) sh hh6 ⟨_, upd_same⟩
      have h7 := h6.mv (τ' := tgSet τ6 h [2, j]) (Mv.claim (t := [2, j]) sh hh6)
      have th : tgSet τ6 h [2, j] h = [2, j] := tgSet_same
      have tsl7 : tgSet τ6 h [2, j] sl = [0] := by rw [tgSet_ne (ne_of_none esl hh6)]; exact tsl
      have tD7 : tgSet τ6 h [2, j] D = [0] := by rw [tgSet_ne (ne_of_none eD6 hh6)]; exact tD6
      have lh7 : Lh10 (upd H6 h (.lst [V.ref D, V.bl last, V.int 0, V.int 0, V.ref sl, V.str (Str.ofString "")])) h D sl (new10 ps last) := ⟨upd_same, ⟨ts, sh _ _ eD6, by show ts.length = ps.length; omega, fun k t p e1 e2 => sh _ _ (gt6 k t p e1 e2)⟩, sh _ _ esl⟩
      generalize (upd H6 h (.lst [V.ref D, V.bl last, V.int 0, V.int 0, V.ref sl, V.str (Str.ofString "")])) = H7 at T7 h7 lh7 ⊢
      generalize tgSet τ6 h [2, j] = τ7 at T7 h7 th tsl7 tD7
      refine ⟨a, _, _, rfl, rfl, h7.ea, (by rw [List.length_map, h7.len, lj, sizeLine_eq]; omega), ?_⟩
      have tu : ∀ x xs, H7 x = some (.tup xs) → (upd H7 a (.lst (hl.map (fun t => V.ref t.1) ++ [V.ref h]))) x = some (.tup xs) := fun x xs e => by rw [upd_ne (ne_of e h7.ea (by intro z; cases z))]; exact e
      have lhk : ∀ {x y z : Addr} {L : L10}, Lh10 H7 x y z L → (τ7 x ≠ [2, 100]) → τ7 y = [0] → τ7 z = [0] → Lh10 (upd H7 a (.lst (hl.map (fun t => V.ref t.1) ++ [V.ref h]))) x y z L := fun {x y z L} q n1 t2 t3 => by
        have nx : x ≠ a := fun e => n1 (by rw [e]; exact h7.ta)
        have ny : y ≠ a := ne_tag t2 h7.ta (by decide)
        have nz : z ≠ a := ne_tag t3 h7.ta (by decide)
        exact ⟨by rw [upd_ne nx]; exact q.h, q.p.keep (fun o e => by rw [upd_ne ny]; exact e) tu, by rw [upd_ne nz]; exact q.s⟩
      refine ⟨_, _, τ7, hl ++ [(h, D, sl)], Ls ++ [new10 ps last], rfl, T7.set h7.ea (by rw [h7.ta]; simp), ⟨by rw [upd_same, List.map_append]; rfl, h7.ta, by simp [h7.len], fun k t L e1 e2 => ?_⟩, by simp [lj], ?_⟩
      · rcases get_snoc e2 with e2 | ⟨ek, rfl⟩
        · have kl := (List.getElem?_eq_some_iff.mp e2).1
          rw [List.getElem?_append_left (by rw [h7.len]; exact kl)] at e1
          obtain ⟨q, t1, t2, t3⟩ := h7.get k t L e1 e2
          exact ⟨lhk q (by rw [t1]; intro z; simp at z; omega) t2 t3, t1, t2, t3⟩
        · rcases get_snoc e1 with e1 | ⟨_, rfl⟩
          · have := (List.getElem?_eq_some_iff.mp e1).1; rw [h7.len] at this; omega
          · rw [ek, lj]
            exact ⟨lhk lh7 (by rw [th]; intro z; simp at z; omega) tD7 tsl7, th, tD7, tsl7⟩
      · intro L hL
        rcases List.mem_append.mp hL with hL | hL
        · exact oL L hL
        · rw [List.mem_singleton.mp hL]
          exact ⟨ps, last, rfl, by omega, by omega, okp⟩
    rintro σ H3 ⟨v, w', τ3, hl, Ls, rfl, T3, h3, lL, oL⟩
    have okL0 : ∀ L ∈ Ls, okL L := fun L hL => by
      obtain ⟨ps, last, rfl, p0, p3, op⟩ := oL L hL
      exact ⟨op, Nat.zero_le _, fun z => by have : (0 : Nat) = ps.length := z; omega⟩
    -- the works
    refine ⟨_, rfl, a, rfl, ⟨_, SqL.of h3.ea⟩, fun L hL => ?_⟩
    refine comp_list (K := K) (xs := hl.map fun t => V.ref t.1) (fun j σ Hc => ∃ (u : Option V) (rs : List Addr), σ = [u] ∧ Same H3 Hc ∧ Hc L = some (.lst (rs.map V.ref)) ∧ rs.length = j ∧ ∀ (kk : Nat) (q : Addr) (x : L10), rs[kk]? = some q → Ls[kk]? = some x → q ≠ L ∧ RowsH Hc q 1 (lastR x.ps x.last)) ?_ ?_ ?_ ?_
    · exact ⟨none, [], rfl, same_new hL, upd_same, rfl, fun kk q h e => by simp at e⟩
    · rintro j σ Hc _ ⟨u, rs, rfl, sc', _⟩
      exact SqL.of (sc' _ _ h3.ea)
    · rintro j x σ Hc hj ⟨u, rs, rfl, sc', hLc, lj, hrs⟩
      rw [List.getElem?_map] at hj
      obtain ⟨t, et, rfl⟩ : ∃ t, hl[j]? = some t ∧ x = .ref t.1 := by
        cases e : hl[j]? with
        | none => rw [e] at hj; cases hj
        | some t => rw [e] at hj; exact ⟨t, rfl, (Option.some.inj hj).symm⟩
      have jl : j < Ls.length := by rw [← h3.len]; exact (List.getElem?_eq_some_iff.mp et).1
      have eL : Ls[j]? = some Ls[j] := by simp [jl]
      obtain ⟨lh, _⟩ := (h3.same sc').get j t Ls[j] et eL
      obtain ⟨ps, last, eps, p0, p3, op⟩ := oL Ls[j] (List.getElem_mem jl)
      rw [eps] at lh eL
      dsimp only [gName, tAll]
      rw [if_pos rfl]
      refine ⟨_, rfl, _, _, _, _, rfl, rfl, SqL.of lh.h, rfl, _, rfl, _, _, _, _, rfl, rfl, SqL.of lh.h, rfl, t.2.1, ps, last, rfl, lh.p, p3, op, fun q H5 fq rq s5 => ?_⟩
      have nqL : q ≠ L := (ne_of_none hLc fq).symm
      have hL5 := s5 _ _ hLc
      have t5 : ∀ y ys, H5 y = some (.tup ys) → (upd H5 L (.lst (rs.map V.ref ++ [V.ref q]))) y = some (.tup ys) := fun y ys e => by rw [upd_ne (ne_of e hL5 (by intro z; cases z))]; exact e
      refine ⟨_, hL5, (by rw [List.length_map, lj, sizeLine_eq]; omega), _, rs ++ [q], rfl, (sc'.trans s5).newly hL, by rw [upd_same, List.map_append]; rfl, by simp [lj], fun kk q' h' e1 e2 => ?_⟩
      rcases get_snoc e1 with e1 | ⟨ek, rfl⟩
      · obtain ⟨n1, Rq⟩ := hrs kk q' h' e1 e2
        exact ⟨n1, (Rq.same s5).keep (fun o e => by rw [upd_ne n1]; exact e) t5⟩
      · rw [ek, lj, eL] at e2
        cases e2
        exact ⟨nqL, rq.keep (fun o e => by rw [upd_ne nqL]; exact e) t5⟩
    rintro σ H4 ⟨u, rs, rfl, s34, hL4, lrs, hrs⟩
    rw [List.length_map, h3.len] at lrs
    refine ⟨(by show 2 ≤ sizeLine; decide), fun p hp => ?_⟩
    have sp := same_new (o := HO.tup [V.int 1, V.ref L]) hp
    have s35 := s34.trans sp
    have hL5 := sp _ _ hL4
    have hp5 := upd_same (H := H4) (a := p) (o := HO.tup [V.int 1, V.ref L])
    have hrs5 : ∀ (kk : Nat) (q : Addr) (x : L10), rs[kk]? = some q → Ls[kk]? = some x → RowsH (upd H4 p (.tup [V.int 1, V.ref L])) q 1 (lastR x.ps x.last) := fun kk q x e1 e2 => ((hrs kk q x e1 e2).2).same sp
    generalize (upd H4 p (.tup [V.int 1, V.ref L])) = H5 at s35 hL5 hp5 hrs5 ⊢
    refine fun o dx ho hdx ndx => ?_
    have T5 := T3.same s35
    have h5 := h3.same s35
    have ho' : (upd H5 dx (.own o)) o = none := by rw [upd_ne ndx.symm]; exact ho
    have sm : Same H5 (upd (upd H5 dx (.own o)) o (.ins C_Works dx [])) := (same_new hdx).trans (same_new ho')
    have good : numOkL ((1 : Nat) : Int) [0] := ⟨rfl, by intro x hx; rw [List.mem_singleton.mp hx]; exact ⟨by decide, by decide⟩⟩
    refine ⟨1, τ3, o, dx, p, L, rs, 1, .non, [0], Ls.map fun x => lastR x.ps x.last, rfl, upd_same, sm _ _ hp5, sm _ _ hL5, by rw [lrs, List.length_map], fun kk q x h1 h2 => ?_, by rw [List.length_map]; omega, by decide, (T5.same sm).un, by decide, by decide, .inl ⟨rfl, rfl⟩, fun _ τ W H10 eo w10 tg kp => ⟨rfl, ?_⟩, fun bad => absurd good bad⟩
    · rw [List.getElem?_map] at h2
      cases e2 : Ls[kk]? with
      | none => rw [e2] at h2; cases h2
      | some y => rw [e2] at h2; cases h2; exact (hrs5 kk q y h1 e2).same sm
    have s510 : Same H5 H10 := fun x u e => kp _ _ (sm _ _ e) (ne_of_none e ho)
    have tg5 : ∀ x u, H5 x = some u → τ x = τ3 x := fun x u e => tg x u (sm _ _ e) (ne_of_none e ho)
    have T10 : RT τ H10 r := T5.made s510 tg5 w10.un
    have h10 := h5.mv (Mv.tags s510 tg5)
    rw [← eo]
    have bl : (begS 1 [0] (Ls.map fun x => lastR x.ps x.last)).hs.length = Ls.length := by unfold begS; simp
    have bg : ∀ (k : Nat) (s : HandS) (y : L10), (begS 1 [0] (Ls.map fun x => lastR x.ps x.last)).hs[k]? = some s → Ls[k]? = some y → Is10 (led10 y) s := fun k s y e1 e2 => by
      unfold begS at e1
      simp only at e1
      rw [List.getElem?_map, List.getElem?_map, e2] at e1
      cases e1
      obtain ⟨ps, last, rfl, _⟩ := oL y (List.mem_of_getElem? e2)
      exact is_new (okL0 _ (List.mem_of_getElem? e2)) rfl rfl rfl
    have ts0 : (begS 1 [0] (Ls.map fun x => lastR x.ps x.last)).ts.length = 0 := rfl
    generalize (begS 1 [0] (Ls.map fun x => lastR x.ps x.last)) = S0 at w10 bl bg ts0
    -- led on
    refine ⟨_, rfl, a, rfl, ⟨_, SqL.of h10.ea⟩, for_list (K := K) (a := a) (xs := hl.map fun t => V.ref t.1) (fun j σ Hc => ∃ (v5 : Option V) (τc : Tg) (hl' : List (Addr × Addr × Addr)), σ = [some (.ref sc), some (.ref r), some (.ref a), v, w', some (.ref W.o), v5, none] ∧ RT τc Hc r ∧ WAt C_Works C_Hand 1 τc Hc W S0 ∧ Hl10 τc Hc a hl' (ledTo Ls j) ∧ hl'.map (fun t => V.ref t.1) = hl.map fun t => V.ref t.1)
      ⟨none, τ, hl, rfl, T10, w10, by unfold ledTo; simpa using h10, rfl⟩ (fun j σ Hc _ ⟨v5, τc, hl', _, _, _, hc, em⟩ => by rw [← em]; exact SqL.of hc.ea) ?_ ?_⟩
    · rintro j x σ Hc hj ⟨v5, τc, hl', rfl, Tc, wc, hc, em⟩
      rw [← em, List.getElem?_map] at hj
      obtain ⟨t, et, rfl⟩ : ∃ t, hl'[j]? = some t ∧ x = .ref t.1 := by
        cases e : hl'[j]? with
        | none => rw [e] at hj; cases hj
        | some t => rw [e] at hj; exact ⟨t, rfl, (Option.some.inj hj).symm⟩
      have jl0 := (List.getElem?_eq_some_iff.mp et).1
      have jl : j < Ls.length := by
        have e0 : hl'.length = hl.length := by have := congrArg List.length em; simpa using this
        rw [e0, h3.len] at jl0; exact jl0
      have eL := ledTo_at jl
      obtain ⟨ps, last, eps, p0, p3, op⟩ := oL Ls[j] (List.getElem_mem jl)
      obtain ⟨lh, t1, t2, t3⟩ := hc.get j t Ls[j] et eL
      refine ⟨_, rfl, t.1, t.2.1, t.2.2, Ls[j], rfl, lh, by rw [eps]; exact op, by rw [eps]; exact p3, by rw [eps]; exact Nat.zero_le _, by rw [eps]; exact Nat.zero_le _, ne_tag t1 t2 (by simp), ne_tag t1 t3 (by simp), fun sl' H' lh' c ex nh kp' => ?_⟩
      obtain ⟨hc', st, tg', un'⟩ := hc.put et eL (by rw [ledTo_len _ _ (by omega)]; omega) lh' kp' c ex
      rw [ledTo_set jl] at hc'
      exact ⟨_, tgSet τc sl' [0], _, rfl, Tc.madeT st tg' (un' Tc.un), wc.mv (Mv.of_stpT st (by decide) (by decide) tg') (un' Tc.un), hc', (set_keys et).trans em⟩
    rintro σ H11 ⟨v5, τ11, hl11, rfl, T11, w11, h11, em11⟩
    rw [List.length_map, h3.len] at h11
    have eLs : ledTo Ls Ls.length = Ls.map led10 := by unfold ledTo; simp
    rw [eLs] at h11
    -- the turns
    refine ⟨_, rfl, by decide, by decide, ?_⟩
    refine for_range (lo := 0) (n := 9) (fun j σ Hc => ∃ (v3 v6 v7 : Option V) (τc : Tg) (hl' : List (Addr × Addr × Addr)) (Ms : List L10) (S : WkS), σ = [some (.ref sc), some (.ref r), some (.ref a), v3, w', some (.ref W.o), v6, v7] ∧ RT τc Hc r ∧ WAt C_Works C_Hand 1 τc Hc W S ∧ Hl10 τc Hc a hl' Ms ∧ Go10 S Ms ∧ Ms.length = n ∧ S.ts.length ≤ j ∧ ∀ M ∈ Ms, ∃ N, M = led10 N ∧ okL N ∧ N.ps.length ≤ 3 ∧ M.sy.length ≤ 66 * (j + 1))
      ⟨_, _, none, τ11, hl11, Ls.map led10, S0, rfl, T11, w11, h11, ⟨by rw [bl, List.length_map], fun k s M e1 e2 => ?_, fun M hM => ?_, by rw [List.length_map]; omega⟩, by rw [List.length_map]; omega, by omega, fun M hM => ?_⟩ ?_ ?_
    · rw [List.getElem?_map] at e2
      cases e : Ls[k]? with
      | none => rw [e] at e2; cases e2
      | some y => rw [e] at e2; cases e2; exact bg k s y e1 e
    · obtain ⟨N, hN, rfl⟩ := List.mem_map.mp hM
      obtain ⟨ps, last, rfl, p0, p3, op⟩ := oL N hN
      have := led10_sy (new10 ps last) op
      have e0 : (new10 ps last).sy.length = 0 := rfl
      omega
    · obtain ⟨N, hN, rfl⟩ := List.mem_map.mp hM
      obtain ⟨ps, last, rfl, p0, p3, op⟩ := oL N hN
      refine ⟨_, rfl, okL0 _ hN, p3, ?_⟩
      have := led10_sy (new10 ps last) op
      have e0 : (new10 ps last).sy.length = 0 := rfl
      omega
    · rintro j σ Hc hj ⟨v3, v6, v7, τc, hl', Ms, S, rfl, Tc, wc, hc, G, ln, tl, oM⟩
      refine ⟨_, rfl, _, rfl, 1, τc, W, S, a, hl', Ms, rfl, wc, hc, G, fun H1 s1 => ⟨_, rfl, iteF ?_⟩⟩
      have Tc1 := Tc.same s1
      have wc1 := wc.same s1
      have hc1 := hc.same s1
      refine ⟨_, rfl, _, rfl, a, _, rfl, .inl (SqL.of hc1.ea), r, n, by rw [List.length_map, hc1.len, ln]; rfl, Tc1.R, by omega, by omega, fun z H2 z0 z1 R2 k2 => ?_⟩
      have T2 := Tc1.draw k2 R2
      have w2 := wc1.mv (Tc1.kr k2) T2.un
      have h2 := hc1.mv (Tc1.kr k2)
      obtain ⟨k, rfl⟩ := Int.eq_ofNat_of_zero_le z0
      have kl : k < Ms.length := by omega
      have eM : Ms[k]? = some Ms[k] := by simp [kl]
      obtain ⟨t, et⟩ : ∃ t, hl'[k]? = some t := ⟨_, List.getElem?_eq_getElem (by rw [h2.len]; exact kl)⟩
      obtain ⟨s', es⟩ : ∃ s', S.hs[k]? = some s' := ⟨_, List.getElem?_eq_getElem (by rw [G.len]; exact kl)⟩
      obtain ⟨N, eN, okN, N3, syN⟩ := oM Ms[k] (List.getElem_mem kl)
      have I := G.is k s' Ms[k] es eM
      obtain ⟨lh, t1, t2, t3⟩ := h2.get k t Ms[k] et eM
      generalize Ms[k] = M at eM eN syN I lh
      have atk : ∀ {l : List V}, l = hl'.map (fun t => V.ref t.1) → atI l (k : Int) = some (.ref t.1) := fun e => by rw [e]; exact atI_nat (by rw [List.getElem?_map, et]; rfl)
      refine ⟨_, rfl, _, rfl, _, _, _, _, rfl, rfl, SqL.of h2.ea, atk rfl, _, _, _, _, rfl, rfl, SqL.of lh.h, rfl, rfl, _, rfl, ?_⟩
      by_cases wt : M.st = Str.ofString "waits"
      · refine ite2 (fun _ => ?_) (fun q => absurd (decide_eq_true (by rw [wt])) q)
        obtain ⟨p, ep, epos, erow⟩ := I.wt wt
        refine ⟨_, rfl, W.o, W.dx, _, rfl, w2.o, rfl, _, rfl, ?_⟩
        dsimp only [tNil]
        refine turn_go (K := K) (CN := C_NoHand) (CO := C_Over) w2 (by omega) es (I.st.trans wt) (fun rw' tt H3 er tr ft ht w3 st3 => ?_)
        rw [erow] at er
        cases er
        have T3' := T2.stp st3
        have h3' := h2.mv (Mv.of_stp st3 (by decide) (by decide))
        obtain ⟨lh3, _⟩ := h3'.get k t M et eM
        have tv : touchV S.ns s'.bs (.store 0 (.one (.box 0))) = [.str "store", .int 0, .non, .int M.a] := by
          show [V.str "store", V.int ((0 : Nat) : Int), V.non, V.int ((s'.bs[0]?).getD 0)] = _
          rw [I.bs]
          rfl
        refine ⟨_, rfl, _, rfl, _, _, _, _, rfl, rfl, SqL.of h3'.ea, atk rfl, _, _, _, _, rfl, rfl, SqL.of lh3.h, rfl, (by show 4 ≤ sizeLine; decide), fun q hq => ?_⟩
        have sq := same_new (o := HO.tup [V.str (Str.ofString "store"), V.int 0, V.non, V.int (M.a : Int)]) hq
        refine ⟨_, _, _, rfl, (dat_touch ht).same sq _, dat_touch (ns := S.ns) (bs := s'.bs) (r := .store 0 (.one (.box 0))) (by rw [tv]; exact upd_same), pl_touch _ _ _, fun H5 s5 => ⟨_, rfl, iteF ?_⟩⟩
        have s35' := sq.trans s5
        have T5' := T3'.same s35'
        have w5 := w3.same s35'
        have h5' := h3'.same s35'
        obtain ⟨lh5, _⟩ := h5'.get k t M et eM
        refine ⟨_, rfl, _, rfl, _, _, _, _, rfl, rfl, SqL.of h5'.ea, atk rfl, _, _, _, _, rfl, rfl, SqL.of lh5.h, rfl, _, _, rfl, rfl, _, rfl, _, rfl, _, _, _, _, rfl, rfl, SqL.of h5'.ea, atk rfl, t.1, _, _, 2, rfl, rfl, lh5.h, rfl, ?_⟩
        have en2 : ((M.n : Int) + 1) = ((M.n + 1 : Nat) : Int) := by omega
        dsimp only
        rw [en2, show ([V.ref t.2.1, V.bl M.last, V.int M.n, V.int M.a, V.ref t.2.2, V.str M.st].set 2 (V.int ((M.n + 1 : Nat) : Int))) = [.ref t.2.1, .bl M.last, .int ((M.n + 1 : Nat) : Int), .int M.a, .ref t.2.2, .str M.st] from rfl]
        have n1 : t.1 ≠ t.2.1 := ne_tag t1 t2 (by simp)
        have n2 : t.1 ≠ t.2.2 := ne_tag t1 t3 (by simp)
        have na : a ≠ t.1 := ne_tag h2.ta t1 (by intro y; simp at y; omega)
        have kp6 : Kp t.1 H5 (upd H5 t.1 (.lst [.ref t.2.1, .bl M.last, .int ((M.n + 1 : Nat) : Int), .int M.a, .ref t.2.2, .str M.st])) := Kp.set
        have lh6 : Lh10 (upd H5 t.1 (.lst [.ref t.2.1, .bl M.last, .int ((M.n + 1 : Nat) : Int), .int M.a, .ref t.2.2, .str M.st])) t.1 t.2.1 t.2.2 { M with n := M.n + 1 } := ⟨upd_same, lh5.p.keep (fun o e => kp6 _ _ e n1.symm) (fun x xs e => kp6 _ _ e (ne_of e lh5.h (by intro z; cases z))), kp6 _ _ lh5.s n2.symm⟩
        have ea6 := kp6 _ _ h5'.ea na
        have fr6 : ∀ x, (upd H5 t.1 (.lst [.ref t.2.1, .bl M.last, .int ((M.n + 1 : Nat) : Int), .int M.a, .ref t.2.2, .str M.st])) x = none → H5 x = none := fun x e => by
          by_cases y : x = t.1
          · rw [y, upd_same] at e; cases e
          · rw [upd_ne y] at e; exact e
        generalize (upd H5 t.1 (.lst [.ref t.2.1, .bl M.last, .int ((M.n + 1 : Nat) : Int), .int M.a, .ref t.2.2, .str M.st])) = H6 at kp6 lh6 ea6 fr6 ⊢
        obtain ⟨ps1, ps2, ps3⟩ := led10_ps N
        have okM : ∀ p ∈ M.ps, ok10 p := by rw [eN, ps1]; exact okN.1
        have nM : M.n ≤ 3 := by rw [eN, ps3]; have := okN.2.1; omega
        refine ⟨_, rfl, _, rfl, _, _, _, _, rfl, rfl, SqL.of ea6, atk rfl, t.1, t.2.1, t.2.2, { M with n := M.n + 1 }, rfl, lh6, okM, by show M.ps.length ≤ 3; rw [eN, ps1]; exact N3, by show M.n + 1 ≤ 100; omega, by show M.sy.length ≤ 10000; omega, n1, n2, fun sl' H' lh' c ex nh kp' => ?_⟩
        have kp7 := kp6.trans kp'
        obtain ⟨hc', st, tg', un'⟩ := h5'.put et eM (by omega) lh' kp7 (by
          rcases c with c | c
          · exact .inl c
          · exact .inr (fr6 _ c)) ex
        have okM' : okL M := by
          refine ⟨okM, ?_, ?_⟩
          · rw [eN, ps1, ps3]; exact okN.2.1
          · rw [eN, ps1, ps2, ps3]; exact okN.2.2
        have okN' : okL { M with n := M.n + 1 } := by
          have := ok_next (L := N) (s := s') (by rw [← eN]; exact I) (by rw [← eN]; exact wt) okN
          rw [← eN] at this
          rw [show M.n = N.n by rw [eN, ps3]]
          exact this
        have Ig := is_gone (ns := S.ns) I wt okM' okN'
        have eT : turnS S k = { S with ns := cellsR S.ns s'.bs (.store 0 (.one (.box 0))), hs := S.hs.set k (goneS S.ns s' (.store 0 (.one (.box 0)))), ts := S.ts ++ [(k : Int)] } := turnS_eq es erow
        have sy' := led10_sy { M with n := M.n + 1 } okM
        have syM : (led10 { M with n := M.n + 1 }).sy.length ≤ 66 * (j + 1 + 1) := by
          have : ({ M with n := M.n + 1 } : L10).sy.length = M.sy.length := rfl
          omega
        refine ⟨_, _, _, tgSet τc sl' [0], _, Ms.set k (led10 { M with n := M.n + 1 }), turnS S k, rfl, T5'.madeT st tg' (un' T5'.un), w5.mv (Mv.of_stpT st (by decide) (by decide) tg') (un' T5'.un), hc', ⟨by rw [eT]; simp [G.len], fun k' s2 M2 e1 e2 => ?_, fun M2 hM2 => ?_, by simp [G.l3]⟩, by simp [ln], by rw [eT]; simp; omega, fun M2 hM2 => ?_⟩
        · rw [eT] at e1
          simp only at e1
          rw [List.getElem?_set] at e1 e2
          by_cases y : k = k'
          · subst y
            rw [if_pos rfl, if_pos (by rw [G.len]; exact kl)] at e1
            rw [if_pos rfl, if_pos kl] at e2
            cases e1
            cases e2
            exact Ig
          · rw [if_neg y] at e1 e2
            exact G.is k' s2 M2 e1 e2
        · rcases List.mem_or_eq_of_mem_set hM2 with hM2 | rfl
          · exact G.sy M2 hM2
          · omega
        · rcases List.mem_or_eq_of_mem_set hM2 with hM2 | rfl
          · obtain ⟨N2, a1, a2, a3, a4⟩ := oM M2 hM2
            exact ⟨N2, a1, a2, a3, by omega⟩
          · exact ⟨_, rfl, okN', by show M.ps.length ≤ 3; rw [eN, ps1]; exact N3, syM⟩
      · refine ite2 (fun q => absurd (V.str.inj (of_decide_eq_true q)) wt) (fun _ => ?_)
        refine ⟨_, rfl, _, rfl, 1, τc, W, S, k, s', rfl, w2, by omega, es, fun q => wt (I.st.symm.trans q), fun H3 s3 => ⟨_, rfl, iteF ?_⟩⟩
        exact ⟨_, _, _, τc, hl', Ms, S, rfl, T2.same s3, w2.same s3, h2.same s3, G, ln, by omega, fun M2 hM2 => by
          obtain ⟨N2, a1, a2, a3, a4⟩ := oM M2 hM2
          exact ⟨N2, a1, a2, a3, by omega⟩⟩
    · rintro σ Hc ⟨v3, v6, v7, τc, hl', Ms, S, rfl, Tc, wc, hc, G, ln, tl, oM⟩
      exact ⟨_, rfl, _, rfl, 1, τc, W, S, a, hl', Ms, rfl, wc, hc, G, fun H1 s1 => fin _⟩

end
theorem len0 {us : List Value} (h : us.length = 0) : us = [] := List.eq_nil_of_length_eq_zero h
theorem lenS {us : List Value} {n : Nat} (h : us.length = n + 1) : ∃ a vs, us = a :: vs ∧ vs.length = n := by
  cases us with
  | nil => cases h
  | cons a t => exact ⟨a, t, rfl, Nat.succ.inj h⟩
theorem bi_is_whole (kV doc pm : Value) (an : Option Addr) (cdv ct : Value) (us : List Value) (hl : us.length = (["value"] : List Str).length) : bindArgs (PySem.W.fnOf "is_whole" "is_whole" (defArgs s_is_whole) (defBody s_is_whole) (defScope s_is_whole) .none kV doc pm an cdv ct) ⟨us, []⟩ = pure ((["value"] : List Str).zip us) := by obtain ⟨_, _, rfl, h1⟩ := lenS hl; cases len0 h1; rfl
theorem bi_is_below (kV doc pm : Value) (an : Option Addr) (cdv ct : Value) (us : List Value) (hl : us.length = (["value", "count"] : List Str).length) : bindArgs (PySem.W.fnOf "is_below" "is_below" (defArgs s_is_below) (defBody s_is_below) (defScope s_is_below) .none kV doc pm an cdv ct) ⟨us, []⟩ = pure ((["value", "count"] : List Str).zip us) := by obtain ⟨_, _, rfl, h1⟩ := lenS hl; obtain ⟨_, _, rfl, h2⟩ := lenS h1; cases len0 h2; rfl
theorem bi_Hand_init (kV doc pm : Value) (an : Option Addr) (cdv ct : Value) (us : List Value) (hl : us.length = (["self", "rows"] : List Str).length) : bindArgs (PySem.W.fnOf "__init__" "Hand.__init__" (defArgs s_Hand_init) (defBody s_Hand_init) (defScope s_Hand_init) .none kV doc pm an cdv ct) ⟨us, []⟩ = pure ((["self", "rows"] : List Str).zip us) := by obtain ⟨_, _, rfl, h1⟩ := lenS hl; obtain ⟨_, _, rfl, h2⟩ := lenS h1; cases len0 h2; rfl
theorem bi_cell_of (kV doc pm : Value) (an : Option Addr) (cdv ct : Value) (us : List Value) (hl : us.length = (["row"] : List Str).length) : bindArgs (PySem.W.fnOf "cell_of" "cell_of" (defArgs s_cell_of) (defBody s_cell_of) (defScope s_cell_of) .none kV doc pm an cdv ct) ⟨us, []⟩ = pure ((["row"] : List Str).zip us) := by obtain ⟨_, _, rfl, h1⟩ := lenS hl; cases len0 h1; rfl
theorem bi_Hand_value_of (kV doc pm : Value) (an : Option Addr) (cdv ct : Value) (us : List Value) (hl : us.length = (["self", "part"] : List Str).length) : bindArgs (PySem.W.fnOf "value_of" "Hand.value_of" (defArgs s_Hand_value_of) (defBody s_Hand_value_of) (defScope s_Hand_value_of) .none kV doc pm an cdv ct) ⟨us, []⟩ = pure ((["self", "part"] : List Str).zip us) := by obtain ⟨_, _, rfl, h1⟩ := lenS hl; obtain ⟨_, _, rfl, h2⟩ := lenS h1; cases len0 h2; rfl
theorem bi_Hand_holds (kV doc pm : Value) (an : Option Addr) (cdv ct : Value) (us : List Value) (hl : us.length = (["self", "row"] : List Str).length) : bindArgs (PySem.W.fnOf "holds" "Hand.holds" (defArgs s_Hand_holds) (defBody s_Hand_holds) (defScope s_Hand_holds) .none kV doc pm an cdv ct) ⟨us, []⟩ = pure ((["self", "row"] : List Str).zip us) := by obtain ⟨_, _, rfl, h1⟩ := lenS hl; obtain ⟨_, _, rfl, h2⟩ := lenS h1; cases len0 h2; rfl
theorem bi_Hand_take (kV doc pm : Value) (an : Option Addr) (cdv ct : Value) (us : List Value) (hl : us.length = (["self", "box", "number"] : List Str).length) : bindArgs (PySem.W.fnOf "take" "Hand.take" (defArgs s_Hand_take) (defBody s_Hand_take) (defScope s_Hand_take) .none kV doc pm an cdv ct) ⟨us, []⟩ = pure ((["self", "box", "number"] : List Str).zip us) := by obtain ⟨_, _, rfl, h1⟩ := lenS hl; obtain ⟨_, _, rfl, h2⟩ := lenS h1; obtain ⟨_, _, rfl, h3⟩ := lenS h2; cases len0 h3; rfl
theorem bi_Hand_do (kV doc pm : Value) (an : Option Addr) (cdv ct : Value) (us : List Value) (hl : us.length = (["self", "row"] : List Str).length) : bindArgs (PySem.W.fnOf "do" "Hand.do" (defArgs s_Hand_do) (defBody s_Hand_do) (defScope s_Hand_do) .none kV doc pm an cdv ct) ⟨us, []⟩ = pure ((["self", "row"] : List Str).zip us) := by obtain ⟨_, _, rfl, h1⟩ := lenS hl; obtain ⟨_, _, rfl, h2⟩ := lenS h1; cases len0 h2; rfl
theorem bi_Hand_lead_on (kV doc pm : Value) (an : Option Addr) (cdv ct : Value) (us : List Value) (hl : us.length = (["self"] : List Str).length) : bindArgs (PySem.W.fnOf "lead_on" "Hand.lead_on" (defArgs s_Hand_lead_on) (defBody s_Hand_lead_on) (defScope s_Hand_lead_on) .none kV doc pm an cdv ct) ⟨us, []⟩ = pure ((["self"] : List Str).zip us) := by obtain ⟨_, _, rfl, h1⟩ := lenS hl; cases len0 h1; rfl
theorem bi_check_numbers (kV doc pm : Value) (an : Option Addr) (cdv ct : Value) (us : List Value) (hl : us.length = (["cells", "count"] : List Str).length) : bindArgs (PySem.W.fnOf "check_numbers" "check_numbers" (defArgs s_check_numbers) (defBody s_check_numbers) (defScope s_check_numbers) .none kV doc pm an cdv ct) ⟨us, []⟩ = pure ((["cells", "count"] : List Str).zip us) := by obtain ⟨_, _, rfl, h1⟩ := lenS hl; obtain ⟨_, _, rfl, h2⟩ := lenS h1; cases len0 h2; rfl
theorem bi_Works_touch_by (kV doc pm : Value) (an : Option Addr) (cdv ct : Value) (us : List Value) (hl : us.length = (["self", "one"] : List Str).length) : bindArgs (PySem.W.fnOf "touch_by" "Works.touch_by" (defArgs s_Works_touch_by) (defBody s_Works_touch_by) (defScope s_Works_touch_by) .none kV doc pm an cdv ct) ⟨us, []⟩ = pure ((["self", "one"] : List Str).zip us) := by obtain ⟨_, _, rfl, h1⟩ := lenS hl; obtain ⟨_, _, rfl, h2⟩ := lenS h1; cases len0 h2; rfl
theorem bi_Works_hand_of (kV doc pm : Value) (an : Option Addr) (cdv ct : Value) (us : List Value) (hl : us.length = (["self", "hand"] : List Str).length) : bindArgs (PySem.W.fnOf "hand_of" "Works.hand_of" (defArgs s_Works_hand_of) (defBody s_Works_hand_of) (defScope s_Works_hand_of) .none kV doc pm an cdv ct) ⟨us, []⟩ = pure ((["self", "hand"] : List Str).zip us) := by obtain ⟨_, _, rfl, h1⟩ := lenS hl; obtain ⟨_, _, rfl, h2⟩ := lenS h1; cases len0 h2; rfl
theorem bi_Works_turn (kV doc pm : Value) (an : Option Addr) (cdv ct : Value) (us : List Value) (hl : us.length = (["self", "hand"] : List Str).length) : bindArgs (PySem.W.fnOf "turn" "Works.turn" (defArgs s_Works_turn) (defBody s_Works_turn) (defScope s_Works_turn) .none kV doc pm an cdv ct) ⟨us, []⟩ = pure ((["self", "hand"] : List Str).zip us) := by obtain ⟨_, _, rfl, h1⟩ := lenS hl; obtain ⟨_, _, rfl, h2⟩ := lenS h1; cases len0 h2; rfl
theorem bd0_Works_init {K : PySem.W.Frag} {T : Addr} {tc : Value} {td : Option Addr} {tn : Nat} {tsl : Array (Option Value)} (d : K.lookup T = some ⟨tc, td, .seq #[.none] tn, tsl⟩) {kV doc pm : Value} {an : Option Addr} {cdv ct : Value} : Binds K (PySem.W.fnOf "__init__" "Works.__init__" (defArgs s_Works_init) (defBody s_Works_init) (defScope s_Works_init) (.ref T) kV doc pm an cdv ct) ["self", "program", "cells"] [] := by
  intro s us KX hl
  have hl : us.length = 3 := by simpa using hl
  obtain ⟨_, _, rfl, h1⟩ := lenS hl; obtain ⟨_, _, rfl, h2⟩ := lenS h1; obtain ⟨_, _, rfl, h3⟩ := lenS h2; cases len0 h3
  exact PySem.W.binds_K KX rfl d rfl rfl rfl
theorem bd1_Works_init {K : PySem.W.Frag} {T : Addr} {tc : Value} {td : Option Addr} {tn : Nat} {tsl : Array (Option Value)} (d : K.lookup T = some ⟨tc, td, .seq #[.none] tn, tsl⟩) {kV doc pm : Value} {an : Option Addr} {cdv ct : Value} : Binds K (PySem.W.fnOf "__init__" "Works.__init__" (defArgs s_Works_init) (defBody s_Works_init) (defScope s_Works_init) (.ref T) kV doc pm an cdv ct) ["self", "program", "cells"] [.none] := by
  intro s us KX hl
  have hl : us.length = 2 := by simpa using hl
  obtain ⟨_, _, rfl, h1⟩ := lenS hl; obtain ⟨_, _, rfl, h2⟩ := lenS h1; cases len0 h2
  exact PySem.W.binds_K KX rfl d rfl rfl rfl
theorem bdK_Works_init {K : PySem.W.Frag} {T : Addr} {tc : Value} {td : Option Addr} {tn : Nat} {tsl : Array (Option Value)} (d : K.lookup T = some ⟨tc, td, .seq #[.none] tn, tsl⟩) {kV doc pm : Value} {an : Option Addr} {cdv ct : Value} (s : Shared) (us : List Value) (z : Value) (KX : K.In s.heap) (hl : (us ++ [z]).length = (["self", "program", "cells"] : List Str).length) : BindsTo s (PySem.W.fnOf "__init__" "Works.__init__" (defArgs s_Works_init) (defBody s_Works_init) (defScope s_Works_init) (.ref T) kV doc pm an cdv ct) ⟨us, [("cells", z)]⟩ ((["self", "program", "cells"] : List Str).zip (us ++ [z])) := by
  have hl : us.length = 2 := by simpa using hl
  obtain ⟨_, _, rfl, h1⟩ := lenS hl; obtain ⟨_, _, rfl, h2⟩ := lenS h1; cases len0 h2
  exact PySem.W.binds_K KX rfl d rfl rfl rfl
theorem bi_Works_boxes (kV doc pm : Value) (an : Option Addr) (cdv ct : Value) (us : List Value) (hl : us.length = (["self", "hand"] : List Str).length) : bindArgs (PySem.W.fnOf "boxes" "Works.boxes" (defArgs s_Works_boxes) (defBody s_Works_boxes) (defScope s_Works_boxes) .none kV doc pm an cdv ct) ⟨us, []⟩ = pure ((["self", "hand"] : List Str).zip us) := by obtain ⟨_, _, rfl, h1⟩ := lenS hl; obtain ⟨_, _, rfl, h2⟩ := lenS h1; cases len0 h2; rfl
theorem bi_Works_said (kV doc pm : Value) (an : Option Addr) (cdv ct : Value) (us : List Value) (hl : us.length = (["self", "hand"] : List Str).length) : bindArgs (PySem.W.fnOf "said" "Works.said" (defArgs s_Works_said) (defBody s_Works_said) (defScope s_Works_said) .none kV doc pm an cdv ct) ⟨us, []⟩ = pure ((["self", "hand"] : List Str).zip us) := by obtain ⟨_, _, rfl, h1⟩ := lenS hl; obtain ⟨_, _, rfl, h2⟩ := lenS h1; cases len0 h2; rfl
theorem bi_Works_how (kV doc pm : Value) (an : Option Addr) (cdv ct : Value) (us : List Value) (hl : us.length = (["self", "hand"] : List Str).length) : bindArgs (PySem.W.fnOf "how" "Works.how" (defArgs s_Works_how) (defBody s_Works_how) (defScope s_Works_how) .none kV doc pm an cdv ct) ⟨us, []⟩ = pure ((["self", "hand"] : List Str).zip us) := by obtain ⟨_, _, rfl, h1⟩ := lenS hl; obtain ⟨_, _, rfl, h2⟩ := lenS h1; cases len0 h2; rfl
theorem bi_Lreel (kV doc pm : Value) (an : Option Addr) (cdv ct : Value) (us : List Value) (hl : us.length = (["script"] : List Str).length) : bindArgs (PySem.W.fnOf "_law_reel" "_law_reel" (defArgs s_Lreel) (defBody s_Lreel) (defScope s_Lreel) .none kV doc pm an cdv ct) ⟨us, []⟩ = pure ((["script"] : List Str).zip us) := by obtain ⟨_, _, rfl, h1⟩ := lenS hl; cases len0 h1; rfl
theorem bi_Ldraw (kV doc pm : Value) (an : Option Addr) (cdv ct : Value) (us : List Value) (hl : us.length = (["reel", "many"] : List Str).length) : bindArgs (PySem.W.fnOf "_law_draw" "_law_draw" (defArgs s_Ldraw) (defBody s_Ldraw) (defScope s_Ldraw) .none kV doc pm an cdv ct) ⟨us, []⟩ = pure ((["reel", "many"] : List Str).zip us) := by obtain ⟨_, _, rfl, h1⟩ := lenS hl; obtain ⟨_, _, rfl, h2⟩ := lenS h1; cases len0 h2; rfl
theorem bi_Lalike (kV doc pm : Value) (an : Option Addr) (cdv ct : Value) (us : List Value) (hl : us.length = (["found", "due"] : List Str).length) : bindArgs (PySem.W.fnOf "_law_alike" "_law_alike" (defArgs s_Lalike) (defBody s_Lalike) (defScope s_Lalike) .none kV doc pm an cdv ct) ⟨us, []⟩ = pure ((["found", "due"] : List Str).zip us) := by obtain ⟨_, _, rfl, h1⟩ := lenS hl; obtain ⟨_, _, rfl, h2⟩ := lenS h1; cases len0 h2; rfl
theorem bi_Lpart (kV doc pm : Value) (an : Option Addr) (cdv ct : Value) (us : List Value) (hl : us.length = (["reel"] : List Str).length) : bindArgs (PySem.W.fnOf "_law_part" "_law_part" (defArgs s_Lpart) (defBody s_Lpart) (defScope s_Lpart) .none kV doc pm an cdv ct) ⟨us, []⟩ = pure ((["reel"] : List Str).zip us) := by obtain ⟨_, _, rfl, h1⟩ := lenS hl; cases len0 h1; rfl
theorem bi_Lrows (kV doc pm : Value) (an : Option Addr) (cdv ct : Value) (us : List Value) (hl : us.length = (["parts", "last"] : List Str).length) : bindArgs (PySem.W.fnOf "_law_rows" "_law_rows" (defArgs s_Lrows) (defBody s_Lrows) (defScope s_Lrows) .none kV doc pm an cdv ct) ⟨us, []⟩ = pure ((["parts", "last"] : List Str).zip us) := by obtain ⟨_, _, rfl, h1⟩ := lenS hl; obtain ⟨_, _, rfl, h2⟩ := lenS h1; cases len0 h2; rfl
theorem bi_Lled (kV doc pm : Value) (an : Option Addr) (cdv ct : Value) (us : List Value) (hl : us.length = (["hand"] : List Str).length) : bindArgs (PySem.W.fnOf "_law_led" "_law_led" (defArgs s_Lled) (defBody s_Lled) (defScope s_Lled) .none kV doc pm an cdv ct) ⟨us, []⟩ = pure ((["hand"] : List Str).zip us) := by obtain ⟨_, _, rfl, h1⟩ := lenS hl; cases len0 h1; rfl
theorem bi_Ltold (kV doc pm : Value) (an : Option Addr) (cdv ct : Value) (us : List Value) (hl : us.length = (["one", "hands"] : List Str).length) : bindArgs (PySem.W.fnOf "_law_told" "_law_told" (defArgs s_Ltold) (defBody s_Ltold) (defScope s_Ltold) .none kV doc pm an cdv ct) ⟨us, []⟩ = pure ((["one", "hands"] : List Str).zip us) := by obtain ⟨_, _, rfl, h1⟩ := lenS hl; obtain ⟨_, _, rfl, h2⟩ := lenS h1; cases len0 h2; rfl
theorem bi_Lover (kV doc pm : Value) (an : Option Addr) (cdv ct : Value) (us : List Value) (hl : us.length = (["one", "k"] : List Str).length) : bindArgs (PySem.W.fnOf "_law_over" "_law_over" (defArgs s_Lover) (defBody s_Lover) (defScope s_Lover) .none kV doc pm an cdv ct) ⟨us, []⟩ = pure ((["one", "k"] : List Str).zip us) := by obtain ⟨_, _, rfl, h1⟩ := lenS hl; obtain ⟨_, _, rfl, h2⟩ := lenS h1; cases len0 h2; rfl
theorem all_mk {l : PySem.W.OpenLaw} {w : World} {K : PySem.W.Frag} {h : Heap} {mg : Str → Option Value} {fa f0 f1 f2 f3 f4 f5 f6 f7 f8 f9 f10 f11 f12 f13 f14 f15 f16 f17 f18 f19 f20 f21 f22 f23 f24 f25 C_Hand C_Works C_NoNumber C_NoHand C_Over C_NoteError : Addr} (X : K.In h) (G : h.Ns mainGlobals mg) (hfa : mg "law" = some (.ref fa))
    {od0 an0 od1 an1 od2 an2 od3 an3 od4 an4 od5 an5 od6 an6 od7 an7 od8 an8 od9 an9 od10 an10 od11 an11 od12 an12 od13 an13 od14 an14 od15 an15 od16 an16 od17 an17 od18 an18 od19 an19 od20 an20 od21 an21 od22 an22 od23 an23 od24 an24 od25 an25 : Option Addr} {sl0 sl1 sl2 sl3 sl4 sl5 sl6 sl7 sl8 sl9 sl10 sl11 sl12 sl13 sl14 sl15 sl16 sl17 sl18 sl19 sl20 sl21 sl22 sl23 sl24 sl25 : Array (Option Value)} {oc0 kV0 dc0 pm0 cd0 ct0 oc1 kV1 dc1 pm1 cd1 ct1 oc2 kV2 dc2 pm2 cd2 ct2 oc3 kV3 dc3 pm3 cd3 ct3 oc4 kV4 dc4 pm4 cd4 ct4 oc5 kV5 dc5 pm5 cd5 ct5 oc6 kV6 dc6 pm6 cd6 ct6 oc7 kV7 dc7 pm7 cd7 ct7 oc8 kV8 dc8 pm8 cd8 ct8 oc9 kV9 dc9 pm9 cd9 ct9 oc10 kV10 dc10 pm10 cd10 ct10 oc11 kV11 dc11 pm11 cd11 ct11 oc12 kV12 dc12 pm12 cd12 ct12 oc13 kV13 dc13 pm13 cd13 ct13 oc14 kV14 dc14 pm14 cd14 ct14 oc15 kV15 dc15 pm15 cd15 ct15 oc16 kV16 dc16 pm16 cd16 ct16 oc17 kV17 dc17 pm17 cd17 ct17 oc18 kV18 dc18 pm18 cd18 ct18 oc19 kV19 dc19 pm19 cd19 ct19 oc20 kV20 dc20 pm20 cd20 ct20 oc21 kV21 dc21 pm21 cd21 ct21 oc22 kV22 dc22 pm22 cd22 ct22 oc23 kV23 dc23 pm23 cd23 ct23 oc24 kV24 dc24 pm24 cd24 ct24 oc25 kV25 dc25 pm25 cd25 ct25 : Value}
    (a0 : PySem.W.nsIn K mainGlobals "is_whole" = some (some (.ref f0))) (l0 : K.lookup f0 = some ⟨oc0, od0, .func (PySem.W.fnOf "is_whole" "is_whole" (defArgs s_is_whole) (defBody s_is_whole) (defScope s_is_whole) .none kV0 dc0 pm0 an0 cd0 ct0), sl0⟩) (c0 : PySem.W.codeIn K cd0 "is_whole" = true) (k0 : PySem.W.keepIn K (.ref f0) = true)
    (a1 : PySem.W.nsIn K mainGlobals "is_below" = some (some (.ref f1))) (l1 : K.lookup f1 = some ⟨oc1, od1, .func (PySem.W.fnOf "is_below" "is_below" (defArgs s_is_below) (defBody s_is_below) (defScope s_is_below) .none kV1 dc1 pm1 an1 cd1 ct1), sl1⟩) (c1 : PySem.W.codeIn K cd1 "is_below" = true) (k1 : PySem.W.keepIn K (.ref f1) = true)
    (a2 : PySem.W.findIn K (.ref C_Hand) "__init__" = some (some (.ref f2))) (l2 : K.lookup f2 = some ⟨oc2, od2, .func (PySem.W.fnOf "__init__" "Hand.__init__" (defArgs s_Hand_init) (defBody s_Hand_init) (defScope s_Hand_init) .none kV2 dc2 pm2 an2 cd2 ct2), sl2⟩) (c2 : PySem.W.codeIn K cd2 "Hand.__init__" = true) (k2 : PySem.W.keepIn K (.ref f2) = true) (n2 : PySem.W.isFn K (.ref f2) = true)
    (a3 : PySem.W.nsIn K mainGlobals "cell_of" = some (some (.ref f3))) (l3 : K.lookup f3 = some ⟨oc3, od3, .func (PySem.W.fnOf "cell_of" "cell_of" (defArgs s_cell_of) (defBody s_cell_of) (defScope s_cell_of) .none kV3 dc3 pm3 an3 cd3 ct3), sl3⟩) (c3 : PySem.W.codeIn K cd3 "cell_of" = true) (k3 : PySem.W.keepIn K (.ref f3) = true)
    (a4 : PySem.W.findIn K (.ref C_Hand) "value_of" = some (some (.ref f4))) (l4 : K.lookup f4 = some ⟨oc4, od4, .func (PySem.W.fnOf "value_of" "Hand.value_of" (defArgs s_Hand_value_of) (defBody s_Hand_value_of) (defScope s_Hand_value_of) .none kV4 dc4 pm4 an4 cd4 ct4), sl4⟩) (c4 : PySem.W.codeIn K cd4 "Hand.value_of" = true) (k4 : PySem.W.keepIn K (.ref f4) = true) (n4 : PySem.W.isFn K (.ref f4) = true)
    (a5 : PySem.W.findIn K (.ref C_Hand) "holds" = some (some (.ref f5))) (l5 : K.lookup f5 = some ⟨oc5, od5, .func (PySem.W.fnOf "holds" "Hand.holds" (defArgs s_Hand_holds) (defBody s_Hand_holds) (defScope s_Hand_holds) .none kV5 dc5 pm5 an5 cd5 ct5), sl5⟩) (c5 : PySem.W.codeIn K cd5 "Hand.holds" = true) (k5 : PySem.W.keepIn K (.ref f5) = true) (n5 : PySem.W.isFn K (.ref f5) = true)
    (a6 : PySem.W.findIn K (.ref C_Hand) "take" = some (some (.ref f6))) (l6 : K.lookup f6 = some ⟨oc6, od6, .func (PySem.W.fnOf "take" "Hand.take" (defArgs s_Hand_take) (defBody s_Hand_take) (defScope s_Hand_take) .none kV6 dc6 pm6 an6 cd6 ct6), sl6⟩) (c6 : PySem.W.codeIn K cd6 "Hand.take" = true) (k6 : PySem.W.keepIn K (.ref f6) = true) (n6 : PySem.W.isFn K (.ref f6) = true)
    (a7 : PySem.W.findIn K (.ref C_Hand) "do" = some (some (.ref f7))) (l7 : K.lookup f7 = some ⟨oc7, od7, .func (PySem.W.fnOf "do" "Hand.do" (defArgs s_Hand_do) (defBody s_Hand_do) (defScope s_Hand_do) .none kV7 dc7 pm7 an7 cd7 ct7), sl7⟩) (c7 : PySem.W.codeIn K cd7 "Hand.do" = true) (k7 : PySem.W.keepIn K (.ref f7) = true) (n7 : PySem.W.isFn K (.ref f7) = true)
    (a8 : PySem.W.findIn K (.ref C_Hand) "lead_on" = some (some (.ref f8))) (l8 : K.lookup f8 = some ⟨oc8, od8, .func (PySem.W.fnOf "lead_on" "Hand.lead_on" (defArgs s_Hand_lead_on) (defBody s_Hand_lead_on) (defScope s_Hand_lead_on) .none kV8 dc8 pm8 an8 cd8 ct8), sl8⟩) (c8 : PySem.W.codeIn K cd8 "Hand.lead_on" = true) (k8 : PySem.W.keepIn K (.ref f8) = true) (n8 : PySem.W.isFn K (.ref f8) = true)
    (a9 : PySem.W.nsIn K mainGlobals "check_numbers" = some (some (.ref f9))) (l9 : K.lookup f9 = some ⟨oc9, od9, .func (PySem.W.fnOf "check_numbers" "check_numbers" (defArgs s_check_numbers) (defBody s_check_numbers) (defScope s_check_numbers) .none kV9 dc9 pm9 an9 cd9 ct9), sl9⟩) (c9 : PySem.W.codeIn K cd9 "check_numbers" = true) (k9 : PySem.W.keepIn K (.ref f9) = true)
    (a10 : PySem.W.findIn K (.ref C_Works) "touch_by" = some (some (.ref f10))) (l10 : K.lookup f10 = some ⟨oc10, od10, .func (PySem.W.fnOf "touch_by" "Works.touch_by" (defArgs s_Works_touch_by) (defBody s_Works_touch_by) (defScope s_Works_touch_by) .none kV10 dc10 pm10 an10 cd10 ct10), sl10⟩) (c10 : PySem.W.codeIn K cd10 "Works.touch_by" = true) (k10 : PySem.W.keepIn K (.ref f10) = true) (n10 : PySem.W.isFn K (.ref f10) = true)
    (a11 : PySem.W.findIn K (.ref C_Works) "hand_of" = some (some (.ref f11))) (l11 : K.lookup f11 = some ⟨oc11, od11, .func (PySem.W.fnOf "hand_of" "Works.hand_of" (defArgs s_Works_hand_of) (defBody s_Works_hand_of) (defScope s_Works_hand_of) .none kV11 dc11 pm11 an11 cd11 ct11), sl11⟩) (c11 : PySem.W.codeIn K cd11 "Works.hand_of" = true) (k11 : PySem.W.keepIn K (.ref f11) = true) (n11 : PySem.W.isFn K (.ref f11) = true)
    (a12 : PySem.W.findIn K (.ref C_Works) "turn" = some (some (.ref f12))) (l12 : K.lookup f12 = some ⟨oc12, od12, .func (PySem.W.fnOf "turn" "Works.turn" (defArgs s_Works_turn) (defBody s_Works_turn) (defScope s_Works_turn) .none kV12 dc12 pm12 an12 cd12 ct12), sl12⟩) (c12 : PySem.W.codeIn K cd12 "Works.turn" = true) (k12 : PySem.W.keepIn K (.ref f12) = true) (n12 : PySem.W.isFn K (.ref f12) = true)
    {T13 : Addr} {tc13 : Value} {td13 : Option Addr} {tn13 : Nat} {tsl13 : Array (Option Value)} (a13 : PySem.W.findIn K (.ref C_Works) "__init__" = some (some (.ref f13))) (l13 : K.lookup f13 = some ⟨oc13, od13, .func (PySem.W.fnOf "__init__" "Works.__init__" (defArgs s_Works_init) (defBody s_Works_init) (defScope s_Works_init) (.ref T13) kV13 dc13 pm13 an13 cd13 ct13), sl13⟩) (c13 : PySem.W.codeIn K cd13 "Works.__init__" = true) (k13 : PySem.W.keepIn K (.ref f13) = true) (n13 : PySem.W.isFn K (.ref f13) = true) (d13 : K.lookup T13 = some ⟨tc13, td13, .seq #[.none] tn13, tsl13⟩)
    (a14 : PySem.W.findIn K (.ref C_Works) "boxes" = some (some (.ref f14))) (l14 : K.lookup f14 = some ⟨oc14, od14, .func (PySem.W.fnOf "boxes" "Works.boxes" (defArgs s_Works_boxes) (defBody s_Works_boxes) (defScope s_Works_boxes) .none kV14 dc14 pm14 an14 cd14 ct14), sl14⟩) (c14 : PySem.W.codeIn K cd14 "Works.boxes" = true) (k14 : PySem.W.keepIn K (.ref f14) = true) (n14 : PySem.W.isFn K (.ref f14) = true)
    (a15 : PySem.W.findIn K (.ref C_Works) "said" = some (some (.ref f15))) (l15 : K.lookup f15 = some ⟨oc15, od15, .func (PySem.W.fnOf "said" "Works.said" (defArgs s_Works_said) (defBody s_Works_said) (defScope s_Works_said) .none kV15 dc15 pm15 an15 cd15 ct15), sl15⟩) (c15 : PySem.W.codeIn K cd15 "Works.said" = true) (k15 : PySem.W.keepIn K (.ref f15) = true) (n15 : PySem.W.isFn K (.ref f15) = true)
    (a16 : PySem.W.findIn K (.ref C_Works) "how" = some (some (.ref f16))) (l16 : K.lookup f16 = some ⟨oc16, od16, .func (PySem.W.fnOf "how" "Works.how" (defArgs s_Works_how) (defBody s_Works_how) (defScope s_Works_how) .none kV16 dc16 pm16 an16 cd16 ct16), sl16⟩) (c16 : PySem.W.codeIn K cd16 "Works.how" = true) (k16 : PySem.W.keepIn K (.ref f16) = true) (n16 : PySem.W.isFn K (.ref f16) = true)
    (a17 : PySem.W.nsIn K mainGlobals "_law_reel" = some (some (.ref f17))) (l17 : K.lookup f17 = some ⟨oc17, od17, .func (PySem.W.fnOf "_law_reel" "_law_reel" (defArgs s_Lreel) (defBody s_Lreel) (defScope s_Lreel) .none kV17 dc17 pm17 an17 cd17 ct17), sl17⟩) (c17 : PySem.W.codeIn K cd17 "_law_reel" = true) (k17 : PySem.W.keepIn K (.ref f17) = true)
    (a18 : PySem.W.nsIn K mainGlobals "_law_draw" = some (some (.ref f18))) (l18 : K.lookup f18 = some ⟨oc18, od18, .func (PySem.W.fnOf "_law_draw" "_law_draw" (defArgs s_Ldraw) (defBody s_Ldraw) (defScope s_Ldraw) .none kV18 dc18 pm18 an18 cd18 ct18), sl18⟩) (c18 : PySem.W.codeIn K cd18 "_law_draw" = true) (k18 : PySem.W.keepIn K (.ref f18) = true)
    (a19 : PySem.W.nsIn K mainGlobals "_law_alike" = some (some (.ref f19))) (l19 : K.lookup f19 = some ⟨oc19, od19, .func (PySem.W.fnOf "_law_alike" "_law_alike" (defArgs s_Lalike) (defBody s_Lalike) (defScope s_Lalike) .none kV19 dc19 pm19 an19 cd19 ct19), sl19⟩) (c19 : PySem.W.codeIn K cd19 "_law_alike" = true) (k19 : PySem.W.keepIn K (.ref f19) = true)
    (a20 : PySem.W.nsIn K mainGlobals "_law_part" = some (some (.ref f20))) (l20 : K.lookup f20 = some ⟨oc20, od20, .func (PySem.W.fnOf "_law_part" "_law_part" (defArgs s_Lpart) (defBody s_Lpart) (defScope s_Lpart) .none kV20 dc20 pm20 an20 cd20 ct20), sl20⟩) (c20 : PySem.W.codeIn K cd20 "_law_part" = true) (k20 : PySem.W.keepIn K (.ref f20) = true)
    (a21 : PySem.W.nsIn K mainGlobals "_law_rows" = some (some (.ref f21))) (l21 : K.lookup f21 = some ⟨oc21, od21, .func (PySem.W.fnOf "_law_rows" "_law_rows" (defArgs s_Lrows) (defBody s_Lrows) (defScope s_Lrows) .none kV21 dc21 pm21 an21 cd21 ct21), sl21⟩) (c21 : PySem.W.codeIn K cd21 "_law_rows" = true) (k21 : PySem.W.keepIn K (.ref f21) = true)
    (a22 : PySem.W.nsIn K mainGlobals "_law_led" = some (some (.ref f22))) (l22 : K.lookup f22 = some ⟨oc22, od22, .func (PySem.W.fnOf "_law_led" "_law_led" (defArgs s_Lled) (defBody s_Lled) (defScope s_Lled) .none kV22 dc22 pm22 an22 cd22 ct22), sl22⟩) (c22 : PySem.W.codeIn K cd22 "_law_led" = true) (k22 : PySem.W.keepIn K (.ref f22) = true)
    (a23 : PySem.W.nsIn K mainGlobals "_law_told" = some (some (.ref f23))) (l23 : K.lookup f23 = some ⟨oc23, od23, .func (PySem.W.fnOf "_law_told" "_law_told" (defArgs s_Ltold) (defBody s_Ltold) (defScope s_Ltold) .none kV23 dc23 pm23 an23 cd23 ct23), sl23⟩) (c23 : PySem.W.codeIn K cd23 "_law_told" = true) (k23 : PySem.W.keepIn K (.ref f23) = true)
    (a24 : PySem.W.nsIn K mainGlobals "_law_over" = some (some (.ref f24))) (l24 : K.lookup f24 = some ⟨oc24, od24, .func (PySem.W.fnOf "_law_over" "_law_over" (defArgs s_Lover) (defBody s_Lover) (defScope s_Lover) .none kV24 dc24 pm24 an24 cd24 ct24), sl24⟩) (c24 : PySem.W.codeIn K cd24 "_law_over" = true) (k24 : PySem.W.keepIn K (.ref f24) = true)
    (a25 : PySem.W.nsIn K mainGlobals "law" = some (some (.ref f25))) (l25 : K.lookup f25 = some ⟨oc25, od25, .func (PySem.W.fnOf "law" "law" (defArgs s_law) (defBody s_law) (defScope s_law) .none kV25 dc25 pm25 an25 cd25 ct25), sl25⟩) (c25 : PySem.W.codeIn K cd25 "law" = true) (k25 : PySem.W.keepIn K (.ref f25) = true)
    (za_Hand : PySem.W.nsIn K mainGlobals "Hand" = some (some (.ref C_Hand)))
    (zpg_Hand : PySem.W.plainGet K C_Hand Str.empty = true)
    (zhd_Hand : PySem.W.hasDictIn K C_Hand = true)
    (zpo_Hand : PySem.W.plainOver K C_Hand = true)
    (zsa_Hand : PySem.W.findIn K (.ref C_Hand) "__setattr__" = some (some (.builtin "object.__setattr__")))
    (zmk_Hand : PySem.W.makesIn K C_Hand = true)
    (zkp_Hand : PySem.W.keepIn K (.ref C_Hand) = true)
    (zn_Hand_rows : PySem.W.findIn K (.ref C_Hand) "rows" = some none)
    (zn_Hand_at : PySem.W.findIn K (.ref C_Hand) "at" = some none)
    (zn_Hand_in_boxes : PySem.W.findIn K (.ref C_Hand) "in_boxes" = some none)
    (zn_Hand_sayings : PySem.W.findIn K (.ref C_Hand) "sayings" = some none)
    (zn_Hand_state : PySem.W.findIn K (.ref C_Hand) "state" = some none)
    (za_Works : PySem.W.nsIn K mainGlobals "Works" = some (some (.ref C_Works)))
    (zpg_Works : PySem.W.plainGet K C_Works Str.empty = true)
    (zhd_Works : PySem.W.hasDictIn K C_Works = true)
    (zpo_Works : PySem.W.plainOver K C_Works = true)
    (zsa_Works : PySem.W.findIn K (.ref C_Works) "__setattr__" = some (some (.builtin "object.__setattr__")))
    (zmk_Works : PySem.W.makesIn K C_Works = true)
    (zkp_Works : PySem.W.keepIn K (.ref C_Works) = true)
    (zn_Works_program : PySem.W.findIn K (.ref C_Works) "program" = some none)
    (zn_Works_numbers : PySem.W.findIn K (.ref C_Works) "numbers" = some none)
    (zn_Works_hands : PySem.W.findIn K (.ref C_Works) "hands" = some none)
    (zn_Works_turns : PySem.W.findIn K (.ref C_Works) "turns" = some none)
    (xa_NoNumber : PySem.W.nsIn K mainGlobals "NoNumber" = some (some (.ref C_NoNumber)))
    (xcl_NoNumber : (PySem.W.clsIn K C_NoNumber).isSome = true)
    (xty_NoNumber : PySem.W.typeIn K (.ref C_NoNumber) = some (.type "type"))
    (xbs_NoNumber : PySem.W.subIn K (.ref C_NoNumber) (.type "BaseException") = some true)
    (xa_NoHand : PySem.W.nsIn K mainGlobals "NoHand" = some (some (.ref C_NoHand)))
    (xcl_NoHand : (PySem.W.clsIn K C_NoHand).isSome = true)
    (xty_NoHand : PySem.W.typeIn K (.ref C_NoHand) = some (.type "type"))
    (xbs_NoHand : PySem.W.subIn K (.ref C_NoHand) (.type "BaseException") = some true)
    (xa_Over : PySem.W.nsIn K mainGlobals "Over" = some (some (.ref C_Over)))
    (xcl_Over : (PySem.W.clsIn K C_Over).isSome = true)
    (xty_Over : PySem.W.typeIn K (.ref C_Over) = some (.type "type"))
    (xbs_Over : PySem.W.subIn K (.ref C_Over) (.type "BaseException") = some true)
    (xa_NoteError : PySem.W.nsIn K mainGlobals "NoteError" = some (some (.ref C_NoteError)))
    (xcl_NoteError : (PySem.W.clsIn K C_NoteError).isSome = true)
    (xty_NoteError : PySem.W.typeIn K (.ref C_NoteError) = some (.type "type"))
    (xbs_NoteError : PySem.W.subIn K (.ref C_NoteError) (.type "BaseException") = some true)
    (xne_NoHand_NoNumber : (Value.ref C_NoHand == Value.ref C_NoNumber) = false)
    (xsb_NoHand_NoNumber : PySem.W.subIn K (.ref C_NoHand) (.ref C_NoNumber) = some false)
    (xne_Over_NoNumber : (Value.ref C_Over == Value.ref C_NoNumber) = false)
    (xsb_Over_NoNumber : PySem.W.subIn K (.ref C_Over) (.ref C_NoNumber) = some false)
    (xne_NoNumber_NoHand : (Value.ref C_NoNumber == Value.ref C_NoHand) = false)
    (xsb_NoNumber_NoHand : PySem.W.subIn K (.ref C_NoNumber) (.ref C_NoHand) = some false)
    (xne_Over_NoHand : (Value.ref C_Over == Value.ref C_NoHand) = false)
    (xsb_Over_NoHand : PySem.W.subIn K (.ref C_Over) (.ref C_NoHand) = some false)
    (xne_NoNumber_Over : (Value.ref C_NoNumber == Value.ref C_Over) = false)
    (xsb_NoNumber_Over : PySem.W.subIn K (.ref C_NoNumber) (.ref C_Over) = some false)
    (xne_NoHand_Over : (Value.ref C_NoHand == Value.ref C_Over) = false)
    (xsb_NoHand_Over : PySem.W.subIn K (.ref C_NoHand) (.ref C_Over) = some false)
    (xne_NoNumber_NoteError : (Value.ref C_NoNumber == Value.ref C_NoteError) = false)
    (xsb_NoNumber_NoteError : PySem.W.subIn K (.ref C_NoNumber) (.ref C_NoteError) = some true)
    (xne_NoHand_NoteError : (Value.ref C_NoHand == Value.ref C_NoteError) = false)
    (xsb_NoHand_NoteError : PySem.W.subIn K (.ref C_NoHand) (.ref C_NoteError) = some true)
    (xne_Over_NoteError : (Value.ref C_Over == Value.ref C_NoteError) = false)
    (xsb_Over_NoteError : PySem.W.subIn K (.ref C_Over) (.ref C_NoteError) = some true)
    (xcg : PySem.W.specialIn K (.builtin "object.__class__") "__get__" = some (some (.builtin "getset_descriptor.__get__")))
    (xct : PySem.W.takesIn K (.builtin "object.__class__") = some true)
    (xga_NoNumber : PySem.W.findIn K (.ref C_NoNumber) "__getattribute__" = some (some (.builtin "BaseException.__getattribute__")))
    (xgk_NoNumber : PySem.W.findIn K (.ref C_NoNumber) "__getattr__" = some none)
    (xmB_NoNumber : PySem.W.mroIn K C_NoNumber (.type "BaseException") = some true)
    (xca_NoNumber : PySem.W.findIn K (.ref C_NoNumber) "__class__" = some (some (.builtin "object.__class__")))
    (xmo_NoNumber : PySem.W.mroIn K C_NoNumber (.type "object") = some true)
    (xex_NoNumber : PySem.W.excIn K C_NoNumber [.type "ValueError", .type "Exception", .type "BaseException", .type "object"] "ValueError.__new__" = true)
    (xve_NoNumber : PySem.W.subIn K (.ref C_NoNumber) (.type "ValueError") = some true)
    (xga_NoHand : PySem.W.findIn K (.ref C_NoHand) "__getattribute__" = some (some (.builtin "BaseException.__getattribute__")))
    (xgk_NoHand : PySem.W.findIn K (.ref C_NoHand) "__getattr__" = some none)
    (xmB_NoHand : PySem.W.mroIn K C_NoHand (.type "BaseException") = some true)
    (xca_NoHand : PySem.W.findIn K (.ref C_NoHand) "__class__" = some (some (.builtin "object.__class__")))
    (xmo_NoHand : PySem.W.mroIn K C_NoHand (.type "object") = some true)
    (xex_NoHand : PySem.W.excIn K C_NoHand [.type "ValueError", .type "Exception", .type "BaseException", .type "object"] "ValueError.__new__" = true)
    (xve_NoHand : PySem.W.subIn K (.ref C_NoHand) (.type "ValueError") = some true)
    (xga_Over : PySem.W.findIn K (.ref C_Over) "__getattribute__" = some (some (.builtin "BaseException.__getattribute__")))
    (xgk_Over : PySem.W.findIn K (.ref C_Over) "__getattr__" = some none)
    (xmB_Over : PySem.W.mroIn K C_Over (.type "BaseException") = some true)
    (xca_Over : PySem.W.findIn K (.ref C_Over) "__class__" = some (some (.builtin "object.__class__")))
    (xmo_Over : PySem.W.mroIn K C_Over (.type "object") = some true)
    (xex_Over : PySem.W.excIn K C_Over [.type "ValueError", .type "Exception", .type "BaseException", .type "object"] "ValueError.__new__" = true)
    (xve_Over : PySem.W.subIn K (.ref C_Over) (.type "ValueError") = some true)
    {gt_BOXES : Tok} (g_BOXES : PySem.W.nsIn K mainGlobals "BOXES" = some (some (.str "abcdefgh" gt_BOXES)))
    {gt_ROUND : Tok} (g_ROUND : PySem.W.nsIn K mainGlobals "ROUND" = some (some (.int 1000 gt_ROUND)))
    {gt_MOST_UNTOUCHING : Tok} (g_MOST_UNTOUCHING : PySem.W.nsIn K mainGlobals "MOST_UNTOUCHING" = some (some (.int 60 gt_MOST_UNTOUCHING)))
    (xsf : PySem.W.subIn K (.ref C_Over) (.ref C_Over) = some true)
    (z_all : PySem.W.nsIn K mainGlobals "all" = some none) (z_bool : PySem.W.nsIn K mainGlobals "bool" = some none) (z_int : PySem.W.nsIn K mainGlobals "int" = some none) (z_isinstance : PySem.W.nsIn K mainGlobals "isinstance" = some none) (z_len : PySem.W.nsIn K mainGlobals "len" = some none) (z_list : PySem.W.nsIn K mainGlobals "list" = some none) (z_max : PySem.W.nsIn K mainGlobals "max" = some none) (z_min : PySem.W.nsIn K mainGlobals "min" = some none) (z_range : PySem.W.nsIn K mainGlobals "range" = some none) (z_str : PySem.W.nsIn K mainGlobals "str" = some none) (z_sum : PySem.W.nsIn K mainGlobals "sum" = some none) (z_tuple : PySem.W.nsIn K mainGlobals "tuple" = some none) (z_zip : PySem.W.nsIn K mainGlobals "zip" = some none) :
    ∃ fd : FuncData, (∀ (s : Shared) (v : Value), BindsTo s fd ⟨[v], []⟩ [("script", v)]) ∧ ∀ base : Heap, K.In base → base.Ns mainGlobals mg → FnOk l.prog w K mg base CX0 9 fa fd ["script"] (spLaw K) := by
  have e := hfa.symm.trans (PySem.W.mg_of X G a25)
  cases e
  have Bt : Blt mg := ⟨PySem.W.mg_none_of X G z_all, PySem.W.mg_none_of X G z_bool, PySem.W.mg_none_of X G z_int, PySem.W.mg_none_of X G z_isinstance, PySem.W.mg_none_of X G z_len, PySem.W.mg_none_of X G z_list, PySem.W.mg_none_of X G z_max, PySem.W.mg_none_of X G z_min, PySem.W.mg_none_of X G z_range, PySem.W.mg_none_of X G z_str, PySem.W.mg_none_of X G z_sum, PySem.W.mg_none_of X G z_tuple, PySem.W.mg_none_of X G z_zip⟩
  have Z_Hand : Cl_Hand K C_Hand := ⟨⟨zpg_Hand, zhd_Hand, zpo_Hand, zsa_Hand⟩, zn_Hand_rows, zn_Hand_at, zn_Hand_in_boxes, zn_Hand_sayings, zn_Hand_state⟩
  have Z_Works : Cl_Works K C_Works := ⟨⟨zpg_Works, zhd_Works, zpo_Works, zsa_Works⟩, zn_Works_program, zn_Works_numbers, zn_Works_hands, zn_Works_turns⟩
  have G_BOXES : Gv mg "BOXES" (.str "abcdefgh") := ⟨_, PySem.W.mg_of X G g_BOXES, ⟨_, rfl⟩⟩
  have G_ROUND : Gv mg "ROUND" (.int 1000) := ⟨_, PySem.W.mg_of X G g_ROUND, ⟨_, rfl⟩⟩
  have G_MOST_UNTOUCHING : Gv mg "MOST_UNTOUCHING" (.int 60) := ⟨_, PySem.W.mg_of X G g_MOST_UNTOUCHING, ⟨_, rfl⟩⟩
  have X_NoNumber : Xr K mg C_NoNumber "NoNumber" := ⟨PySem.W.mg_of X G xa_NoNumber, ⟨xcl_NoNumber, xty_NoNumber, xbs_NoNumber⟩, ⟨xga_NoNumber, xgk_NoNumber, xmB_NoNumber, xcl_NoNumber, xca_NoNumber, xcg, xct, xmo_NoNumber⟩, xex_NoNumber, xve_NoNumber⟩
  have X_NoHand : Xr K mg C_NoHand "NoHand" := ⟨PySem.W.mg_of X G xa_NoHand, ⟨xcl_NoHand, xty_NoHand, xbs_NoHand⟩, ⟨xga_NoHand, xgk_NoHand, xmB_NoHand, xcl_NoHand, xca_NoHand, xcg, xct, xmo_NoHand⟩, xex_NoHand, xve_NoHand⟩
  have X_Over : Xr K mg C_Over "Over" := ⟨PySem.W.mg_of X G xa_Over, ⟨xcl_Over, xty_Over, xbs_Over⟩, ⟨xga_Over, xgk_Over, xmB_Over, xcl_Over, xca_Over, xcg, xct, xmo_Over⟩, xex_Over, xve_Over⟩
  have O_NoteError : Xo K mg C_NoNumber C_NoteError "NoteError" true := ⟨PySem.W.mg_of X G xa_NoteError, ⟨xcl_NoteError, xty_NoteError, xbs_NoteError⟩, ⟨xne_NoNumber_NoteError, xsb_NoNumber_NoteError⟩⟩
  have Q_NoNumber_NoHand : XPair K C_NoNumber C_NoHand false := ⟨xne_NoNumber_NoHand, xsb_NoNumber_NoHand⟩
  have Q_NoNumber_Over : XPair K C_NoNumber C_Over false := ⟨xne_NoNumber_Over, xsb_NoNumber_Over⟩
  have Q_NoHand_NoNumber : XPair K C_NoHand C_NoNumber false := ⟨xne_NoHand_NoNumber, xsb_NoHand_NoNumber⟩
  have Q_NoHand_Over : XPair K C_NoHand C_Over false := ⟨xne_NoHand_Over, xsb_NoHand_Over⟩
  have Q_NoHand_NoteError : XPair K C_NoHand C_NoteError true := ⟨xne_NoHand_NoteError, xsb_NoHand_NoteError⟩
  have Q_Over_NoNumber : XPair K C_Over C_NoNumber false := ⟨xne_Over_NoNumber, xsb_Over_NoNumber⟩
  have Q_Over_NoHand : XPair K C_Over C_NoHand false := ⟨xne_Over_NoHand, xsb_Over_NoHand⟩
  have Q_Over_NoteError : XPair K C_Over C_NoteError true := ⟨xne_Over_NoteError, xsb_Over_NoteError⟩
  have F0 := fun_mk (st := s_is_whole) l0 c0 k0
  have F1 := fun_mk (st := s_is_below) l1 c1 k1
  have F2 := fun_mk (st := s_Hand_init) l2 c2 k2
  have F3 := fun_mk (st := s_cell_of) l3 c3 k3
  have F4 := fun_mk (st := s_Hand_value_of) l4 c4 k4
  have F5 := fun_mk (st := s_Hand_holds) l5 c5 k5
  have F6 := fun_mk (st := s_Hand_take) l6 c6 k6
  have F7 := fun_mk (st := s_Hand_do) l7 c7 k7
  have F8 := fun_mk (st := s_Hand_lead_on) l8 c8 k8
  have F9 := fun_mk (st := s_check_numbers) l9 c9 k9
  have F10 := fun_mk (st := s_Works_touch_by) l10 c10 k10
  have F11 := fun_mk (st := s_Works_hand_of) l11 c11 k11
  have F12 := fun_mk (st := s_Works_turn) l12 c12 k12
  have F13 : FunD K "__init__" "Works.__init__" s_Works_init [.none] f13 _ := ⟨⟨_, _, _, _, _, _, _, _, _, _, _, _, _, _, rfl, l13, c13, d13⟩, k13⟩
  have F14 := fun_mk (st := s_Works_boxes) l14 c14 k14
  have F15 := fun_mk (st := s_Works_said) l15 c15 k15
  have F16 := fun_mk (st := s_Works_how) l16 c16 k16
  have F17 := fun_mk (st := s_Lreel) l17 c17 k17
  have F18 := fun_mk (st := s_Ldraw) l18 c18 k18
  have F19 := fun_mk (st := s_Lalike) l19 c19 k19
  have F20 := fun_mk (st := s_Lpart) l20 c20 k20
  have F21 := fun_mk (st := s_Lrows) l21 c21 k21
  have F22 := fun_mk (st := s_Lled) l22 c22 k22
  have F23 := fun_mk (st := s_Ltold) l23 c23 k23
  have F24 := fun_mk (st := s_Lover) l24 c24 k24
  have F25 := fun_mk (st := s_law) l25 c25 k25
  refine ⟨PySem.W.fnOf "law" "law" (defArgs s_law) (defBody s_law) (defScope s_law) .none kV25 dc25 pm25 an25 cd25 ct25, fun s v => .of_eq rfl, fun base _ _ => ?_⟩
  have A0 : FnAt l.prog w K mg base 1 "is_whole" ["value"] (spWh K) := ⟨f0, _, ok_is_whole F0 Bt, PySem.W.mg_of X G a0, k0, F0.binds (ps := ["value"]) bi_is_whole⟩
  have A1 : FnAt l.prog w K mg base 2 "is_below" ["value", "count"] (spBelow K) := ⟨f1, _, ok_is_below F1 A0, PySem.W.mg_of X G a1, k1, F1.binds (ps := ["value", "count"]) bi_is_below⟩
  have A2 : MakeAt l.prog w K mg base 1 C_Hand "Hand" ["self", "rows"] [] (spHInit C_Hand K) := ⟨f2, _, [], ok_hinit F2 Z_Hand G_BOXES, ⟨zmk_Hand, a2, n2, zkp_Hand⟩, PySem.W.mg_of X G za_Hand, F2.binds (ps := ["self", "rows"]) bi_Hand_init, .nil⟩
  have A3 : FnAt l.prog w K mg base 1 "cell_of" ["row"] (spCellOf K) := ⟨f3, _, ok_cellOf F3 , PySem.W.mg_of X G a3, k3, F3.binds (ps := ["row"]) bi_cell_of⟩
  have R4_0 : MethAt l.prog w K mg base 1 C_Hand "value_of" ["self", "part"] (spVal C_Hand 0 K) := ⟨f4, _, ok_val0 F4, ⟨a4, n4, k4⟩, F4.binds (ps := ["self", "part"]) bi_Hand_value_of⟩
  have R4_1 : MethAt l.prog w K mg base 2 C_Hand "value_of" ["self", "part"] (spVal C_Hand 1 K) := ⟨f4, _, ok_valS (n := 0) F4 R4_0 Z_Hand G_BOXES G_ROUND, ⟨a4, n4, k4⟩, F4.binds (ps := ["self", "part"]) bi_Hand_value_of⟩
  have A4 : MethAt l.prog w K mg base 3 C_Hand "value_of" ["self", "part"] (spVal C_Hand 2 K) := ⟨f4, _, ok_valS (n := 1) F4 R4_1 Z_Hand G_BOXES G_ROUND, ⟨a4, n4, k4⟩, F4.binds (ps := ["self", "part"]) bi_Hand_value_of⟩
  have A5 : MethAt l.prog w K mg base 4 C_Hand "holds" ["self", "row"] (spHolds C_Hand K) := ⟨f5, _, ok_holds F5 A4 Z_Hand, ⟨a5, n5, k5⟩, F5.binds (ps := ["self", "row"]) bi_Hand_holds⟩
  have A6 : MethAt l.prog w K mg base 1 C_Hand "take" ["self", "box", "number"] (spTake C_Hand K) := ⟨f6, _, ok_take F6 Z_Hand G_BOXES, ⟨a6, n6, k6⟩, F6.binds (ps := ["self", "box", "number"]) bi_Hand_take⟩
  have A7 : MethAt l.prog w K mg base 5 C_Hand "do" ["self", "row"] (spDo C_Hand K) := ⟨f7, _, ok_do F7 A4 A6 A5 Z_Hand, ⟨a7, n7, k7⟩, F7.binds (ps := ["self", "row"]) bi_Hand_do⟩
  have A8 : MethAt l.prog w K mg base 6 C_Hand "lead_on" ["self"] (spLead C_Hand K) := ⟨f8, _, ok_lead F8 A3 A7 Z_Hand G_MOST_UNTOUCHING Bt, ⟨a8, n8, k8⟩, F8.binds (ps := ["self"]) bi_Hand_lead_on⟩
  have A9 : FnAtX l.prog w K mg base 3 "check_numbers" ["cells", "count"] (spCheckNum C_NoNumber K) := ⟨f9, _, ok_checkNum F9 A1 G_ROUND Bt X_NoNumber, PySem.W.mg_of X G a9, k9, F9.binds (ps := ["cells", "count"]) bi_check_numbers⟩
  have A10 : MethAt l.prog w K mg base 4 C_Works "touch_by" ["self", "one"] (spTouchBy C_Works C_Hand K) := ⟨f10, _, ok_touchBy F10 A3 A4 A6 Z_Works Z_Hand, ⟨a10, n10, k10⟩, F10.binds (ps := ["self", "one"]) bi_Works_touch_by⟩
  have A11 : MethAtX l.prog w K mg base 3 C_Works "hand_of" ["self", "hand"] (spHandOf C_Works C_Hand C_NoHand K) := ⟨f11, _, ok_handOf F11 A1 Z_Works Bt X_NoHand, ⟨a11, n11, k11⟩, F11.binds (ps := ["self", "hand"]) bi_Works_hand_of⟩
  have A12 : MethAtX l.prog w K mg base 7 C_Works "turn" ["self", "hand"] (spTurn C_Works C_Hand C_NoHand C_Over K) := ⟨f12, _, ok_turn F12 A11 A10 A8 Z_Works Z_Hand X_Over, ⟨a12, n12, k12⟩, F12.binds (ps := ["self", "hand"]) bi_Works_turn⟩
  have G13 := ok_winit F13 Z_Works Z_Hand A9 A2 A8 Bt
  have A13 : MakeAtX l.prog w K mg base 7 C_Works "Works" ["self", "program", "cells"] [] (spWInit C_Works C_Hand C_NoNumber K) := ⟨f13, _, _, G13, ⟨zmk_Works, a13, n13, zkp_Works⟩, PySem.W.mg_of X G za_Works, bd0_Works_init d13, .nil⟩
  have A13_1 : MakeAtX l.prog w K mg base 7 C_Works "Works" ["self", "program", "cells"] [.non] (spWInit C_Works C_Hand C_NoNumber K) := ⟨f13, _, _, G13, ⟨zmk_Works, a13, n13, zkp_Works⟩, PySem.W.mg_of X G za_Works, bd1_Works_init d13, .cons rfl .nil⟩
  have A13_K : MakeAtK l.prog w K mg base 7 C_Works "Works" ["self", "program", "cells"] "cells" (spWInit C_Works C_Hand C_NoNumber K) := ⟨f13, _, G13, ⟨zmk_Works, a13, n13, zkp_Works⟩, PySem.W.mg_of X G za_Works, bdK_Works_init d13⟩
  have A14 : MethAtX l.prog w K mg base 4 C_Works "boxes" ["self", "hand"] (spTold HandS.bs C_Works C_Hand C_NoHand K) := ⟨f14, _, ok_boxes F14 A11 Z_Works Z_Hand Bt, ⟨a14, n14, k14⟩, F14.binds (ps := ["self", "hand"]) bi_Works_boxes⟩
  have A15 : MethAtX l.prog w K mg base 4 C_Works "said" ["self", "hand"] (spTold HandS.sy C_Works C_Hand C_NoHand K) := ⟨f15, _, ok_said F15 A11 Z_Works Z_Hand Bt, ⟨a15, n15, k15⟩, F15.binds (ps := ["self", "hand"]) bi_Works_said⟩
  have A16 : MethAtX l.prog w K mg base 4 C_Works "how" ["self", "hand"] (spHow C_Works C_Hand C_NoHand K) := ⟨f16, _, ok_how F16 A11 Z_Works Z_Hand, ⟨a16, n16, k16⟩, F16.binds (ps := ["self", "hand"]) bi_Works_how⟩
  have A17 : FnAt l.prog w K mg base 1 "_law_reel" ["script"] (spReelP K) := ⟨f17, _, ok_reelP F17 Bt, PySem.W.mg_of X G a17, k17, F17.binds (ps := ["script"]) bi_Lreel⟩
  have A18 : FnAt l.prog w K mg base 1 "_law_draw" ["reel", "many"] (spDrawP K) := ⟨f18, _, ok_drawP F18 Bt, PySem.W.mg_of X G a18, k18, F18.binds (ps := ["reel", "many"]) bi_Ldraw⟩
  have R19_0 : FnAt l.prog w K mg base 1 "_law_alike" ["found", "due"] (spAlike 0 K) := ⟨f19, _, ok_alike0 F19, PySem.W.mg_of X G a19, k19, F19.binds (ps := ["found", "due"]) bi_Lalike⟩
  have R19_1 : FnAt l.prog w K mg base 2 "_law_alike" ["found", "due"] (spAlike 1 K) := ⟨f19, _, ok_alikeS (n := 0) F19 R19_0 Bt, PySem.W.mg_of X G a19, k19, F19.binds (ps := ["found", "due"]) bi_Lalike⟩
  have R19_2 : FnAt l.prog w K mg base 3 "_law_alike" ["found", "due"] (spAlike 2 K) := ⟨f19, _, ok_alikeS (n := 1) F19 R19_1 Bt, PySem.W.mg_of X G a19, k19, F19.binds (ps := ["found", "due"]) bi_Lalike⟩
  have R19_3 : FnAt l.prog w K mg base 4 "_law_alike" ["found", "due"] (spAlike 3 K) := ⟨f19, _, ok_alikeS (n := 2) F19 R19_2 Bt, PySem.W.mg_of X G a19, k19, F19.binds (ps := ["found", "due"]) bi_Lalike⟩
  have A19 : FnAt l.prog w K mg base 5 "_law_alike" ["found", "due"] (spAlike 4 K) := ⟨f19, _, ok_alikeS (n := 3) F19 R19_3 Bt, PySem.W.mg_of X G a19, k19, F19.binds (ps := ["found", "due"]) bi_Lalike⟩
  have A20 : FnAt l.prog w K mg base 2 "_law_part" ["reel"] (spPart K) := ⟨f20, _, ok_part F20 A18, PySem.W.mg_of X G a20, k20, F20.binds (ps := ["reel"]) bi_Lpart⟩
  have A21 : FnAt l.prog w K mg base 1 "_law_rows" ["parts", "last"] (spRows10 K) := ⟨f21, _, ok_rows10 F21 Bt, PySem.W.mg_of X G a21, k21, F21.binds (ps := ["parts", "last"]) bi_Lrows⟩
  have A22 : FnAt l.prog w K mg base 1 "_law_led" ["hand"] (spLed10 K) := ⟨f22, _, ok_led10 F22 Bt, PySem.W.mg_of X G a22, k22, F22.binds (ps := ["hand"]) bi_Lled⟩
  have A23 : FnAt l.prog w K mg base 6 "_law_told" ["one", "hands"] (spTold10 C_Works C_Hand K) := ⟨f23, _, ok_told10 F23 A19 A14.calm A15.calm A16.calm Z_Works Bt, PySem.W.mg_of X G a23, k23, F23.binds (ps := ["one", "hands"]) bi_Ltold⟩
  have A24 : FnAt l.prog w K mg base 8 "_law_over" ["one", "k"] (spOver10 C_Works C_Hand K) := ⟨f24, _, ok_over10 F24 X_NoNumber X_NoHand X_Over O_NoteError Q_NoNumber_NoHand Q_NoNumber_Over Q_NoHand_NoNumber Q_NoHand_Over Q_NoHand_NoteError Q_Over_NoNumber Q_Over_NoHand Q_Over_NoteError xsf A12 Z_Works Bt, PySem.W.mg_of X G a24, k24, F24.binds (ps := ["one", "k"]) bi_Lover⟩
  exact ok_law F25 A17 A18 A19 A20 A21 A22 A23 A24 A13_1.calm A12.calm Z_Works Bt
theorem walk {l : PySem.W.OpenLaw} {q : Program} {loose : List Str} {XP : (Str → Option Value) → Heap → Prop} {YP : World → Heap → Prop} {d : DefRec} {K : Params → PySem.W.Frag} (hn : l.most = some 63) (hdf : d.params.defaults = [])
    (hY : ∀ (w : World) (h : Heap), YP w h → (K w.params).In h)
    (F : ∀ (w : World) (mg : Str → Option Value) (fa : Addr) (h : Heap), (K w.params).In h → h.Ns mainGlobals mg → mg d.name = some (.ref fa) →
      ∃ fd : FuncData, (∀ (s : Shared) (u : Value), BindsTo s fd ⟨[u], []⟩ [("script", u)]) ∧ ∀ base : Heap, (K w.params).In base → base.Ns mainGlobals mg → FnOk l.prog w (K w.params) mg base CX0 9 fa fd ["script"] (spLaw (K w.params))) :
    PySem.W.WalkO q loose XP YP l.row.toRowW d [] (fun f vs => PySem.call f vs) :=
  L2.walk_of (n := 63) (k := 9) (x := "script") (CX := fun _ => CX0) (sp := fun w => spLaw (K w.params)) hn (by decide) hdf ⟨rfl, by decide, by decide⟩ hY F (fun _ _ a ns hl _ hS => ⟨a, ns, rfl, hS, hl, fun _ => rfl⟩) fun _ _ _ _ _ z => z
end Prf
namespace PySem.W.Fast
def tw16358327117841175290 := ()
def tw19045878389214233 := ()
def tw3730122327855088153 := ()
def tw14539099411033745441 := ()
def tw9918025367225453816 := ()
def tw13783560649172525500 := ()
def tw17400416573578304575 := ()
def tw1121215530285470916 := ()
def tw10498384148155992993 := ()
def tw15887633712921886594 := ()
def tw5610300370725502574 := ()
def tw580512033265449669 := ()
def tw17788047187890334736 := ()
def tw4032233752598372386 := ()
def tw3777458610697316064 := ()
def tw4007359855389645228 := ()
def tw16965339570279156820 := ()
def tw12141074899548948029 := ()
def tw5792203656051566969 := ()
def tw16193773798342518570 := ()
def tw721407687620377703 := ()
def tw15666973658302991308 := ()
def tw8757166188517533392 := ()
def tw13226408187901488592 := ()
def tw15959067473791492027 := ()
def tw11457375042184375413 := ()
def tw5183133126516045946 := ()
def tw8921343416529283480 := ()
def tw13066237849884529405 := ()
def tw2649435268309420996 := ()
def tw15154752773344750132 := ()
def tw5954186078025879414 := ()
def tw11798165234935125055 := ()
def tw12476723610262456526 := ()
def tw12684326847625294767 := ()
def tw9833810697244546887 := ()
def tw4215604661006435197 := ()
def tw9674399610064750565 := ()
def tw1260698399071762823 := ()
def tw3937127840492736913 := ()
def tw6136312062322430692 := ()
def tw8394222929457899733 := ()
def tw549207579852563987 := ()
def tw18434118029058820856 := ()
def tw2472339969181469255 := ()
def tw5465831300620795485 := ()
def tw5388421529896803109 := ()
def tw3879920150261908932 := ()
def tw13153885878328490041 := ()
def tw17329711214464460942 := ()
def tw8340546576817447289 := ()
def tw18350068267228579348 := ()
def tw4508268463003029469 := ()
def tw1778791411454839550 := ()
def tw4095108411628157584 := ()
def tw15531103677903718544 := ()
def tw15185971625544953385 := ()
def tw18011096993650988157 := ()
def tw11652531161042480717 := ()
def tw11602273103590337293 := ()
def tw17606013442180056306 := ()
def tw2544123521441559977 := ()
def tw10593769132652191740 := ()
def tw12105061612500349029 := ()
def tw4666574685206419367 := ()
def tw12568887520451845421 := ()
def tw3544674178238902847 := ()
def tw10755739431039350443 := ()
def tw4490973917300598737 := ()
def tw16822382672274662578 := ()
def tw5366978697330548466 := ()
def tw13486593530254706775 := ()
def tw5763174553470063508 := ()
def tw10210268084715380174 := ()
def tw11166630057036099965 := ()
def tw5210151652958544467 := ()
def tw1293917049462270246 := ()
def tw8714819249576145351 := ()
def tw12026032092398229324 := ()
def tw15822793129832434163 := ()
def tw297094168340246555 := ()
def tw17321210349782163779 := ()
def tw12978633287725628801 := ()
def tw9827445292745739217 := ()
def tw16756825969414910898 := ()
def tw2462034472790725366 := ()
def tw9219624496229037672 := ()
def tw14639827134017460742 := ()
def tw9224199739106502947 := ()
def tw11680979795453936750 := ()
def tw17616209503571355606 := ()
def tw6105061287531086583 := ()
def tw5754996314119535667 := ()
def tw5215357500279159182 := ()
def tw6058850422278985788 := ()
def tw17882875985881975385 := ()
def tw10380149746163662347 := ()
def tw15251907627300756747 := ()
def tw16924612154788789248 := ()
def tw4014542937526413098 := ()
def tw10252776609246963757 := ()
def tw18166413696853447444 := ()
def tw6203831180631841732 := ()
def tw16414278656361163321 := ()
def tw11585511862990230879 := ()
def tw15950227830777607464 := ()
def tw1769020721407770306 := ()
def tw2525558978775778742 := ()
def tw15228535960901995679 := ()
def tw2051912411101125581 := ()
def tw6787636612949478212 := ()
def tw1648358030752482739 := ()
def tw8770643766836764926 := ()
def tw8205888491416935181 := ()
def tw1616684243759802954 := ()
def tw206994795380213084 := ()
def tw17932644861483675768 := ()
def tw10703703139815949864 := ()
def tw17804658568321823525 := ()
def tw1600201290936508991 := ()
def tw568980881580103559 := ()
def tw12056053888855294656 := ()
def tw8870686285719801956 := ()
def tw15380749769058728703 := ()
def tw18382152174616431702 := ()
def tw18442496090401017774 := ()
def tw13447011457594590026 := ()
def tw14997631037367746771 := ()
def tw5011641062186864048 := ()
def tw15819068861852941346 := ()
def tw16970988852720608241 := ()
def tw1923801526492781875 := ()
def tw17721232948865053789 := ()
def tw15917882852940663896 := ()
def tw9454709174202037576 := ()
def tw11311606220607858201 := ()
def tw10777066574773929107 := ()
def tw11303169721665404761 := ()
def tw17659382584464549724 := ()
def tw12074481308841583926 := ()
def tw13329961744849732013 := ()
def tw7846969012349506295 := ()
def tw18095225701783565307 := ()
def tw7692365458422010580 := ()
def tw17063282149667939847 := ()
def tw2469221226865427320 := ()
def tw16470511692052828172 := ()
def tw5526249814374986015 := ()
def tw3291551240571051505 := ()
def tw7405981459197916012 := ()
def tw5143308178761809664 := ()
def tw12560962484856843603 := ()
def tw12120413864100086188 := ()
def tw9807842121144833628 := ()
def tw608987909387501902 := ()
def tw18441070280138593445 := ()
def tw10340537500034409069 := ()
def tw9400706582491527664 := ()
def tw14982708591772833751 := ()
def tw16749781333398715599 := ()
def tw7183323685609874298 := ()
def tw3867006465847867027 := ()
def tw14189851909205448318 := ()
def tw486360133279927654 := ()
def tw3264071813800076436 := ()
def tw14469433412796277945 := ()
def tw9042543215051137068 := ()
def tw6535013330013777042 := ()
def tw18404080003065966141 := ()
def tw1417756806636268404 := ()
def tw2271364722257288583 := ()
def tw7220350574753885632 := ()
def tw13121561096091375960 := ()
def tw14640216507309535778 := ()
def tw5830895578884227104 := ()
def tw14902065030607034784 := ()
def tw10361221102941330061 := ()
def tw15939069121243722275 := ()
def tw13396870195848300829 := ()
def tw4323039575401043117 := ()
def tw129433756475673895 := ()
def tw9643831378256989656 := ()
def tw2072457607491909445 := ()
def tw2042987472242386704 := ()
def tw14385857540673644446 := ()
def tw18127508903358660664 := ()
def tw1131000046247152583 := ()
def tw10636712993657065138 := ()
def tw7381229301153168485 := ()
def tw7811352837110333890 := ()
def tw15387442638110570786 := ()
def tw11335436202291291765 := ()
def tw14628040590664502505 := ()
def tw9807003805780854964 := ()
def tw16240092297939930715 := ()
def tw8821623524987101181 := ()
def tw9140891572767844537 := ()
def tw11961659248469165923 := ()
def tw6211480012853726651 := ()
def tw10791023540055421177 := ()
def tw10288318325387354757 := ()
def tw12028700846204545527 := ()
def tw15032180185496579374 := ()
def tw542728489181990236 := ()
def tw18247566540226959682 := ()
def tw10629336432935504635 := ()
def tw10194781912032558527 := ()
def tw11753641294691883795 := ()
def tw12068776043127148040 := ()
def tw1241780409990651971 := ()
def tw15780450576238921647 := ()
def tw69478521216672789 := ()
def tw12164263743390189902 := ()
def tw3138371377880390886 := ()
def tw464171431542964916 := ()
def tw16721123076955141870 := ()
def tw8787446822288206360 := ()
def tw5911199916828611385 := ()
def tw348693548208080563 := ()
def tw9531098055873721478 := ()
def tw5290425185531947795 := ()
def tw2744908332005776729 := ()
def tw11843051680746143922 := ()
def tw15282858733325851333 := ()
def tw5972337224639338875 := ()
def tw7866030381028895847 := ()
def tw1188332689125502424 := ()
def tw1104371385193871523 := ()
def tw12471842594831824327 := ()
def tw11682709908428449316 := ()
def tw6283039981647535141 := ()
def tw13194030155010825317 := ()
def tw8565416783057833499 := ()
def tw7134168423355052128 := ()
def tw13858992160952950618 := ()
def tw3716169861391286973 := ()
def tw13192387007371348596 := ()
def tw15756102020704281922 := ()
def tw3724043579329817313 := ()
def tw6279024153045688349 := ()
def tw2886091338438709545 := ()
def tw16560427632130214565 := ()
def tw1150722980007291251 := ()
def tw15385180890135437408 := ()
def tw13033991225327958291 := ()
def tw17223744594243976548 := ()
def tw18419314275584056894 := ()
def tw8726098597556345221 := ()
def tw14363726385111808777 := ()
def tw7116026352531529742 := ()
def tw17250318191271261634 := ()
def tw5435433861588621066 := ()
def tw11690000303949833161 := ()
def tw2528334959413196698 := ()
def tw12365881093747058853 := ()
def tw830028363925672075 := ()
def tw13257542257514509818 := ()
def tw585754687382412831 := ()
def tw519812691882298858 := ()
def tw18161472066606316089 := ()
def tw7282250282375165036 := ()
def tw16806412933616713956 := ()
def tw16129463936584220013 := ()
def tw12312435412816352782 := ()
def tw7144111185278716998 := ()
def tw1046472709853891398 := ()
def tw12094424251185437172 := ()
def tw7728800441948631396 := ()
def tw4959865637765680863 := ()
def tw8345839001999557900 := ()
def tw8872280775435389800 := ()
def tw3368729432078651219 := ()
def tw7581103877258106556 := ()
def tw7099861728959895828 := ()
def tw16854555850420192083 := ()
def tw4465858634399531495 := ()
def tw17579706511372685701 := ()
def tw11446324337568978821 := ()
def tw15774400803559944195 := ()
def tw17072734693177761484 := ()
def tw14279852914759685594 := ()
def tw14696066824855954292 := ()
def tw7853172242512824187 := ()
def tw10105065731887285499 := ()
def tw11316032022729527739 := ()
def tw2650336384616997290 := ()
def tw9924465971706594659 := ()
def tw14846777079841264858 := ()
def tw8418158372918907911 := ()
def tw9774742289185759024 := ()
def tw12911631828098615632 := ()
def tw7940741697390547520 := ()
def tw17419439126321249678 := ()
def tw13763492712214457740 := ()
def tw17959001850740620561 := ()
def tw17695600742238382709 := ()
def tw3558471335142479736 := ()
def tw15000298819517594526 := ()
def tw5236188486296728284 := ()
def tw5224130759626812412 := ()
def tw2588288944683105377 := ()
def tw4924609848030684830 := ()
def tw12425737991693355285 := ()
def tw9167660715366683921 := ()
def tw2479028490813407765 := ()
def tw7572951742975904516 := ()
def tw2381534494347756164 := ()
def tw13205628513230972885 := ()
def tw14906007142515995879 := ()
def tw621047431539612687 := ()
def tw12334052616065718457 := ()
def tw4941865553929026242 := ()
def tw18090572757127917927 := ()
def tw14043816064733453453 := ()
def tw2443779103380755025 := ()
def tw618713890654622915 := ()
def tw1254162421660705153 := ()
def tw7370703370865309649 := ()
def tw2750155951134557507 := ()
def tw84950401097716298 := ()
def tw5291354774930363758 := ()
def tw2166996480589538161 := ()
def tw8859880500454680182 := ()
def tw6657630985283599126 := ()
def tw15627816776784471077 := ()
def tw13824746861790046376 := ()
def tw17211783796067671762 := ()
def tw12344701987835263430 := ()
def tw2656137760202697312 := ()
def tw13303633463350136617 := ()
def tw16763802065876589692 := ()
def tw16919497130603237111 := ()
def tw937116381252981806 := ()
def tw8303047764664513057 := ()
def tw16122163832808482379 := ()
def tw13400067487696195959 := ()
def tw14894729675640645275 := ()
def tw8877757501950632920 := ()
def tw1560247302796661277 := ()
def tw13124189224803815884 := ()
def tw3619205405624103683 := ()
def tw8935230971509464910 := ()
def tw7524017613224125162 := ()
def tw10156230340621195853 := ()
def tw16448164744731778383 := ()
def tw999685222548752751 := ()
def tw5439523261792401014 := ()
def tw2156984638501503379 := ()
def tw9621806235108828398 := ()
def tw10577192124961084380 := ()
def tw5963493698223002579 := ()
def tw17815985686827684165 := ()
def tw18342548772692642694 := ()
def tw2783117704220159198 := ()
def tw11039635952457212622 := ()
def tw3876642775941595062 := ()
def tw1537399113360823500 := ()
def tw9003301610401481990 := ()
def tw2607284796034825866 := ()
def tw10670349607969594284 := ()
def tw12952713586466257428 := ()
def tw11411569118930850770 := ()
def tw4191230785930487301 := ()
def tw556706390955243766 := ()
def tw6332528838339710570 := ()
def tw6941787881164950199 := ()
end PySem.W.Fast
open PySem PySem.W PyProof.Rows
set_option maxRecDepth 100000 in
set_option maxHeartbeats 0 in
theorem PySem.Challenge.cw_fewnotes_k10_sixty_rows_by_itself_holds : PySem.Challenge.rw_fewnotes_k10_sixty_rows_by_itself.Holds := by
  w_on; o_law; k_head; (case hw => w_witness2)
  k_fill
  refine Prf.walk (l := PySem.Challenge.rw_fewnotes_k10_sixty_rows_by_itself) rfl rfl (fun w h Y => PySem.W.kIn_of Y) ?F
  case F =>
    intro w mg fa h KX G hmg
    replace hmg : mg (Str.ofString "law") = some (.ref fa) := hmg
    refine' Prf.all_mk KX G hmg ?a0 ?l0 ?c0 ?k0 ?a1 ?l1 ?c1 ?k1 ?a2 ?l2 ?c2 ?k2 ?n2 ?a3 ?l3 ?c3 ?k3 ?a4 ?l4 ?c4 ?k4 ?n4 ?a5 ?l5 ?c5 ?k5 ?n5 ?a6 ?l6 ?c6 ?k6 ?n6 ?a7 ?l7 ?c7 ?k7 ?n7 ?a8 ?l8 ?c8 ?k8 ?n8 ?a9 ?l9 ?c9 ?k9 ?a10 ?l10 ?c10 ?k10 ?n10 ?a11 ?l11 ?c11 ?k11 ?n11 ?a12 ?l12 ?c12 ?k12 ?n12 ?a13 ?l13 ?c13 ?k13 ?n13 ?d13 ?a14 ?l14 ?c14 ?k14 ?n14 ?a15 ?l15 ?c15 ?k15 ?n15 ?a16 ?l16 ?c16 ?k16 ?n16 ?a17 ?l17 ?c17 ?k17 ?a18 ?l18 ?c18 ?k18 ?a19 ?l19 ?c19 ?k19 ?a20 ?l20 ?c20 ?k20 ?a21 ?l21 ?c21 ?k21 ?a22 ?l22 ?c22 ?k22 ?a23 ?l23 ?c23 ?k23 ?a24 ?l24 ?c24 ?k24 ?a25 ?l25 ?c25 ?k25 ?za_Hand ?zpg_Hand ?zhd_Hand ?zpo_Hand ?zsa_Hand ?zmk_Hand ?zkp_Hand ?zn_Hand_rows ?zn_Hand_at ?zn_Hand_in_boxes ?zn_Hand_sayings ?zn_Hand_state ?za_Works ?zpg_Works ?zhd_Works ?zpo_Works ?zsa_Works ?zmk_Works ?zkp_Works ?zn_Works_program ?zn_Works_numbers ?zn_Works_hands ?zn_Works_turns ?xa_NoNumber ?xcl_NoNumber ?xty_NoNumber ?xbs_NoNumber ?xa_NoHand ?xcl_NoHand ?xty_NoHand ?xbs_NoHand ?xa_Over ?xcl_Over ?xty_Over ?xbs_Over ?xa_NoteError ?xcl_NoteError ?xty_NoteError ?xbs_NoteError ?xne_NoHand_NoNumber ?xsb_NoHand_NoNumber ?xne_Over_NoNumber ?xsb_Over_NoNumber ?xne_NoNumber_NoHand ?xsb_NoNumber_NoHand ?xne_Over_NoHand ?xsb_Over_NoHand ?xne_NoNumber_Over ?xsb_NoNumber_Over ?xne_NoHand_Over ?xsb_NoHand_Over ?xne_NoNumber_NoteError ?xsb_NoNumber_NoteError ?xne_NoHand_NoteError ?xsb_NoHand_NoteError ?xne_Over_NoteError ?xsb_Over_NoteError ?xcg ?xct ?xga_NoNumber ?xgk_NoNumber ?xmB_NoNumber ?xca_NoNumber ?xmo_NoNumber ?xex_NoNumber ?xve_NoNumber ?xga_NoHand ?xgk_NoHand ?xmB_NoHand ?xca_NoHand ?xmo_NoHand ?xex_NoHand ?xve_NoHand ?xga_Over ?xgk_Over ?xmB_Over ?xca_Over ?xmo_Over ?xex_Over ?xve_Over ?g_BOXES ?g_ROUND ?g_MOST_UNTOUCHING ?xsf ?z_all ?z_bool ?z_int ?z_isinstance ?z_len ?z_list ?z_max ?z_min ?z_range ?z_str ?z_sum ?z_tuple ?z_zip
    (case za_Hand => k_is)
    (case zpg_Hand => k_is)
    (case zhd_Hand => k_is)
    (case zpo_Hand => k_is)
    (case zsa_Hand => k_is)
    (case zmk_Hand => k_is)
    (case zkp_Hand => k_is)
    (case zn_Hand_rows => k_is)
    (case zn_Hand_at => k_is)
    (case zn_Hand_in_boxes => k_is)
    (case zn_Hand_sayings => k_is)
    (case zn_Hand_state => k_is)
    (case za_Works => k_is)
    (case zpg_Works => k_is)
    (case zhd_Works => k_is)
    (case zpo_Works => k_is)
    (case zsa_Works => k_is)
    (case zmk_Works => k_is)
    (case zkp_Works => k_is)
    (case zn_Works_program => k_is)
    (case zn_Works_numbers => k_is)
    (case zn_Works_hands => k_is)
    (case zn_Works_turns => k_is)
    (case xa_NoNumber => k_is)
    (case xcl_NoNumber => rfl)
    (case xty_NoNumber => k_is)
    (case xbs_NoNumber => k_is)
    (case xa_NoHand => k_is)
    (case xcl_NoHand => rfl)
    (case xty_NoHand => k_is)
    (case xbs_NoHand => k_is)
    (case xa_Over => k_is)
    (case xcl_Over => rfl)
    (case xty_Over => k_is)
    (case xbs_Over => k_is)
    (case xa_NoteError => k_is)
    (case xcl_NoteError => rfl)
    (case xty_NoteError => k_is)
    (case xbs_NoteError => k_is)
    (case xne_NoHand_NoNumber => rfl)
    (case xsb_NoHand_NoNumber => k_is)
    (case xne_Over_NoNumber => rfl)
    (case xsb_Over_NoNumber => k_is)
    (case xne_NoNumber_NoHand => rfl)
    (case xsb_NoNumber_NoHand => k_is)
    (case xne_Over_NoHand => rfl)
    (case xsb_Over_NoHand => k_is)
    (case xne_NoNumber_Over => rfl)
    (case xsb_NoNumber_Over => k_is)
    (case xne_NoHand_Over => rfl)
    (case xsb_NoHand_Over => k_is)
    (case xne_NoNumber_NoteError => rfl)
    (case xsb_NoNumber_NoteError => k_is)
    (case xne_NoHand_NoteError => rfl)
    (case xsb_NoHand_NoteError => k_is)
    (case xne_Over_NoteError => rfl)
    (case xsb_Over_NoteError => k_is)
    (case xcg => k_is)
    (case xct => k_is)
    (case xga_NoNumber => k_is)
    (case xgk_NoNumber => k_is)
    (case xmB_NoNumber => k_is)
    (case xca_NoNumber => k_is)
    (case xmo_NoNumber => k_is)
    (case xex_NoNumber => k_exc)
    (case xve_NoNumber => k_is)
    (case xga_NoHand => k_is)
    (case xgk_NoHand => k_is)
    (case xmB_NoHand => k_is)
    (case xca_NoHand => k_is)
    (case xmo_NoHand => k_is)
    (case xex_NoHand => k_exc)
    (case xve_NoHand => k_is)
    (case xga_Over => k_is)
    (case xgk_Over => k_is)
    (case xmB_Over => k_is)
    (case xca_Over => k_is)
    (case xmo_Over => k_is)
    (case xex_Over => k_exc)
    (case xve_Over => k_is)
    (case g_BOXES => k_is)
    (case g_ROUND => k_is)
    (case g_MOST_UNTOUCHING => k_is)
    (case xsf => k_is)
    (case a0 => k_is)
    (case l0 => k_is)
    (case c0 => k_is)
    (case k0 => k_is)
    (case a1 => k_is)
    (case l1 => k_is)
    (case c1 => k_is)
    (case k1 => k_is)
    (case a2 => k_is)
    (case l2 => k_is)
    (case c2 => k_is)
    (case k2 => k_is)
    (case n2 => k_is)
    (case a3 => k_is)
    (case l3 => k_is)
    (case c3 => k_is)
    (case k3 => k_is)
    (case a4 => k_is)
    (case l4 => k_is)
    (case c4 => k_is)
    (case k4 => k_is)
    (case n4 => k_is)
    (case a5 => k_is)
    (case l5 => k_is)
    (case c5 => k_is)
    (case k5 => k_is)
    (case n5 => k_is)
    (case a6 => k_is)
    (case l6 => k_is)
    (case c6 => k_is)
    (case k6 => k_is)
    (case n6 => k_is)
    (case a7 => k_is)
    (case l7 => k_is)
    (case c7 => k_is)
    (case k7 => k_is)
    (case n7 => k_is)
    (case a8 => k_is)
    (case l8 => k_is)
    (case c8 => k_is)
    (case k8 => k_is)
    (case n8 => k_is)
    (case a9 => k_is)
    (case l9 => k_is)
    (case c9 => k_is)
    (case k9 => k_is)
    (case a10 => k_is)
    (case l10 => k_is)
    (case c10 => k_is)
    (case k10 => k_is)
    (case n10 => k_is)
    (case a11 => k_is)
    (case l11 => k_is)
    (case c11 => k_is)
    (case k11 => k_is)
    (case n11 => k_is)
    (case a12 => k_is)
    (case l12 => k_is)
    (case c12 => k_is)
    (case k12 => k_is)
    (case n12 => k_is)
    (case a13 => k_is)
    (case l13 => k_is)
    (case c13 => k_is)
    (case k13 => k_is)
    (case n13 => k_is)
    (case d13 => k_is)
    (case a14 => k_is)
    (case l14 => k_is)
    (case c14 => k_is)
    (case k14 => k_is)
    (case n14 => k_is)
    (case a15 => k_is)
    (case l15 => k_is)
    (case c15 => k_is)
    (case k15 => k_is)
    (case n15 => k_is)
    (case a16 => k_is)
    (case l16 => k_is)
    (case c16 => k_is)
    (case k16 => k_is)
    (case n16 => k_is)
    (case a17 => k_is)
    (case l17 => k_is)
    (case c17 => k_is)
    (case k17 => k_is)
    (case a18 => k_is)
    (case l18 => k_is)
    (case c18 => k_is)
    (case k18 => k_is)
    (case a19 => k_is)
    (case l19 => k_is)
    (case c19 => k_is)
    (case k19 => k_is)
    (case a20 => k_is)
    (case l20 => k_is)
    (case c20 => k_is)
    (case k20 => k_is)
    (case a21 => k_is)
    (case l21 => k_is)
    (case c21 => k_is)
    (case k21 => k_is)
    (case a22 => k_is)
    (case l22 => k_is)
    (case c22 => k_is)
    (case k22 => k_is)
    (case a23 => k_is)
    (case l23 => k_is)
    (case c23 => k_is)
    (case k23 => k_is)
    (case a24 => k_is)
    (case l24 => k_is)
    (case c24 => k_is)
    (case k24 => k_is)
    (case a25 => k_is)
    (case l25 => k_is)
    (case c25 => k_is)
    (case k25 => k_is)
    (case z_all => k_is)
    (case z_bool => k_is)
    (case z_int => k_is)
    (case z_isinstance => k_is)
    (case z_len => k_is)
    (case z_list => k_is)
    (case z_max => k_is)
    (case z_min => k_is)
    (case z_range => k_is)
    (case z_str => k_is)
    (case z_sum => k_is)
    (case z_tuple => k_is)
    (case z_zip => k_is)
#print axioms PySem.Challenge.cw_fewnotes_k10_sixty_rows_by_itself_holds
