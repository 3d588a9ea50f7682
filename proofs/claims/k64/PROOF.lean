import PyProof.Rows.All
import Wide.All
import OpenK.AllK
import Wide.FinOn
import Lean
import PyProof.EqAt
import PyProof.EqKinds
import PyProof.TupleCall
import PyProof.EqLayable
import PyProof.ExcArgsOwn
import PyProof.ExcAttrAll.Exception
import PyProof.RulesAs
import PyProof.ExcBaseAll.ValueError
import PyProof.NsDelKeeps
import KE.KRevSl
import OpenK.KOps
import OpenK.KWalk
import PyProof.StrLawsIn
import PyProof.StrBlock2
import PyProof.StrLawsIdx
import PyProof.NeKinds
import PySem.Challenge.RW_fewnotes_k64_texts_of_no_record
set_option Elab.async false
set_option linter.all false
set_option maxRecDepth 100000
/-! THE HAND LAYER, for ints, bools, texts, own classes, LISTS and tuples (index, slices, in, append, pop ..), calls, loops. Paste it whole ahead of your own text; what your proof does not reach may be deleted. -/
namespace L2
open PySem PySem.Spec PyProof.Rows

/-- a key: an int or a str -/
abbrev Key := Sum Int Str
def keyIs : Key → Value → Bool
  | .inl k, v => Value.isInt k v
  | .inr x, v => Value.isStrOf x v
def keyH (w : World) : Key → Int
  | .inl k => hashInt k
  | .inr x => hashStr w x
theorem keyIs_shape : ∀ {k : Key} {v : Value}, keyIs k v = true → (∃ i t, k = Sum.inl i ∧ v = Value.int i t) ∨ (∃ x t, k = Sum.inr x ∧ v = Value.str x t)
  | .inl i, v, h => by
    obtain ⟨t, e⟩ := Value.isInt_shape (k := i) (v := v) h
    exact .inl ⟨i, t, rfl, e⟩
  | .inr x, v, h => by
    obtain ⟨t, e⟩ := Value.isStrOf_shape (x := x) (v := v) h
    exact .inr ⟨x, t, rfl, e⟩
theorem key_ll (a b : Int) : decide ((Sum.inl a : Key) = Sum.inl b) = (a == b) := by
  by_cases e : a = b
  · subst e; simp
  · have h : ¬ (Sum.inl a : Key) = Sum.inl b := fun q => e (Sum.inl.inj q)
    rw [decide_eq_false h]
    exact (beq_eq_false_iff_ne.mpr e).symm
theorem key_rr (a b : Str) : decide ((Sum.inr a : Key) = Sum.inr b) = decide (a = b) := by
  by_cases e : a = b
  · subst e; simp
  · have h : ¬ (Sum.inr a : Key) = Sum.inr b := fun q => e (Sum.inr.inj q)
    rw [decide_eq_false h, decide_eq_false e]
theorem key_lr (a : Int) (b : Str) : decide ((Sum.inl a : Key) = Sum.inr b) = false := decide_eq_false (fun q => nomatch q)
theorem key_rl (a : Str) (b : Int) : decide ((Sum.inr a : Key) = Sum.inl b) = false := decide_eq_false (fun q => nomatch q)

def mixKind (prog : Program) (w : World) : PySem.KeyKind prog w Key where
  is := keyIs
  hash := keyH w
  inj := fun v a b ha hb => by
    rcases keyIs_shape ha with ⟨i, t, rfl, rfl⟩ | ⟨x, t, rfl, rfl⟩
    · rcases keyIs_shape hb with ⟨j, u, rfl, e⟩ | ⟨y, u, rfl, e⟩
      · injection e with e1 _; rw [e1]
      · exact nomatch e
    · rcases keyIs_shape hb with ⟨j, u, rfl, e⟩ | ⟨y, u, rfl, e⟩
      · exact nomatch e
      · injection e with e1 _; rw [e1]
  byValue := fun k v h => by
    rcases keyIs_shape h with ⟨i, t, rfl, rfl⟩ | ⟨x, t, rfl, rfl⟩ <;> rfl
  pyHash := fun hv h => by
    rcases keyIs_shape hv with ⟨i, t, rfl, rfl⟩ | ⟨x, t, rfl, rfl⟩
    · exact wpAny_pyHash_int h
    · exact wpAny_pyHash_str h
  eqBool := fun hu hv h => by
    rcases keyIs_shape hu with ⟨i, t, rfl, rfl⟩ | ⟨x, t, rfl, rfl⟩
    · rcases keyIs_shape hv with ⟨j, u, rfl, rfl⟩ | ⟨y, u, rfl, rfl⟩
      · rw [key_ll] at h; exact wpAny_eqBool_int h
      · rw [key_lr] at h; exact SeqAt.EqAt.int_str i t y u _ _ _ _ h
    · rcases keyIs_shape hv with ⟨j, u, rfl, rfl⟩ | ⟨y, u, rfl, rfl⟩
      · rw [key_rl] at h; exact SeqAt.EqAt.str_int x t j u _ _ _ _ h
      · rw [key_rr] at h; exact wpAny_eqBool_str h
  «strs» := fun k x t v h => by
    rcases keyIs_shape h with ⟨i, u, rfl, e⟩ | ⟨y, u, rfl, e⟩
    · exact nomatch e
    · injection e with e1 _
      subst e1
      cases v <;> rfl

end L2

namespace L2
open PySem PySem.Spec PyProof.Rows

/-- a value, without the heap -/
inductive V where
  | non | bl (b : Bool) | int (i : Int) | str (x : Str) | byt (b : Array UInt8) | flt (b : UInt64) | ref (a : Addr) | ty (n : String)
  deriving DecidableEq

def RelV : V → Value → Prop
  | .non, u => u = Value.none
  | .bl b, u => u = Value.bool b
  | .int i, u => ∃ t, u = Value.int i t
  | .str x, u => ∃ t, u = Value.str x t
  | .byt b, u => ∃ t, u = Value.bytes b t
  | .flt b, u => ∃ t, u = Value.float b t
  | .ref a, u => u = Value.ref a
  | .ty n, u => u = Value.type n

abbrev Vals : List V → List Value → Prop := Paired RelV
theorem Vals.length {xs : List V} {us : List Value} (r : Vals xs us) : xs.length = us.length := Paired.length r
theorem Vals.get : ∀ {xs : List V} {us : List Value} {i : Nat} {x : V}, Vals xs us → xs[i]? = some x → ∃ u, us[i]? = some u ∧ RelV x u
  | _, _, _, _, .nil, e => by simp at e
  | _, _, 0, _, .cons r _, e => by simp at e; subst e; exact ⟨_, rfl, r⟩
  | _, _, i + 1, x, .cons _ t, e => by
    obtain ⟨u, h1, h2⟩ := Vals.get (i := i) (x := x) t (by simpa using e)
    exact ⟨u, by simpa using h1, h2⟩
theorem Vals.set {x : V} {u : Value} (r : RelV x u) : ∀ {xs : List V} {us : List Value} (i : Nat), Vals xs us → Vals (xs.set i x) (us.set i u)
  | _, _, _, .nil => .nil
  | _, _, 0, .cons _ t => .cons r t
  | _, _, i + 1, .cons q t => .cons q (Vals.set r i t)
theorem Vals.append {xs ys : List V} {us ws : List Value} (h : Vals xs us) (s : Vals ys ws) : Vals (xs ++ ys) (us ++ ws) := by
  induction h with
  | nil => exact s
  | cons r t ih => exact .cons r ih
theorem Vals.take : ∀ {xs : List V} {us : List Value} (n : Nat), Vals xs us → Vals (xs.take n) (us.take n)
  | _, _, 0, _ => .nil
  | _, _, _ + 1, .nil => .nil
  | _, _, n + 1, .cons r t => .cons r (Vals.take n t)
theorem Vals.drop : ∀ {xs : List V} {us : List Value} (n : Nat), Vals xs us → Vals (xs.drop n) (us.drop n)
  | _, _, 0, r => r
  | _, _, _ + 1, .nil => .nil
  | _, _, n + 1, .cons _ t => Vals.drop n t
def RelO : Option V → Option Value → Prop
  | some v, some u => RelV v u
  | none, none => True
  | _, _ => False
def KV {κ : Type} : List (κ × V) → List (κ × Value) → Prop := Paired fun (p : κ × V) (q : κ × Value) => p.1 = q.1 ∧ RelV p.2 q.2

/-- a key of a dict (00_mix): an int or a text -/
def kV : Key → V
  | .inl i => .int i
  | .inr x => .str x

/-- what stands at a tracked address -/
inductive HO where
  /-- a list -/
  | lst (xs : List V)
  /-- a tuple (never changes) -/
  | tup (xs : List V)
  /-- a dict whose keys are ints and texts; one whose keys are tuples of ints and texts (the empty one is both) -/
  | dK (kvs : List (Key × V)) | dT (kvs : List (List Key × V))
  /-- a set of ints: its members, its size -/
  | set (S : Int → Bool) (n : Nat)
  /-- an instance of the class at C, its dict at dx, its attributes -/
  | ins (C dx : Addr) (fs : List (Str × V))
  /-- the dict of the instance at x -/
  | own (x : Addr)
  /-- the dict of an exception -/
  | xd (fs : List (Str × V))
  /-- a bound method, f of x -/
  | met (f x : Addr)
  /-- a range object lo, lo + 1, .. below hi -/
  | rng (lo hi : Int)
  /-- a thing that is known to the object (the script; a dict while a loop walks it): read, never written while it is so -/
  | frz (o : Obj) (u : HO)
  /-- a code object's table -/
  | tbl (ps : Array Value)
  /-- any other thing, by what is true of its one object (a def of one's own: SetO a S n := HO.ext fun h => ..) -/
  | ext (φ : Heap → Prop)

abbrev Hp := Addr → Option HO
def upd (H : Hp) (a : Addr) (o : HO) : Hp := fun b => if b = a then some o else H b
theorem upd_same {H : Hp} {a : Addr} {o : HO} : upd H a o a = some o := by unfold upd; rw [if_pos rfl]
theorem upd_ne {H : Hp} {a b : Addr} {o : HO} (h : b ≠ a) : upd H a o b = H b := by unfold upd; rw [if_neg h]
theorem upd_upd {H : Hp} {a : Addr} {o u : HO} : upd (upd H a o) a u = upd H a u := by
  funext b; unfold upd; split <;> rfl
/-- two objects of different content stand apart -/
theorem ne_of {H : Hp} {a b : Addr} {o u : HO} (h : H a = some o) (h' : H b = some u) (d : o ≠ u) : a ≠ b := by
  intro e; subst e; rw [h] at h'; exact d (Option.some.inj h')
theorem ne_of_none {H : Hp} {a b : Addr} {o : HO} (h : H a = some o) (h' : H b = none) : a ≠ b := by
  intro e; subst e; rw [h] at h'; cases h'

section
variable (P : Program) (w : World)
def ObjOk (H : Hp) (h : Heap) (a : Addr) : HO → Prop
  | .lst xs => xs.length ≤ sizeLine ∧ ∃ (its : List Value) (n : Nat), Vals xs its ∧ h.get? a = some { cls := .type "list", data := .seq its.toArray n }
  | .tup xs => xs.length ≤ sizeLine ∧ ∃ its : List Value, Vals xs its ∧ IsTup h a its.toArray
  | .dK kvs => kvs.length ≤ sizeLine ∧ (a == sysModules) = false ∧ ∃ vs, KV kvs vs ∧ h.DictOf (mixKind P w) a vs
  | .dT kvs => kvs.length ≤ sizeLine ∧ (a == sysModules) = false ∧ ∃ xs : List (List Key × Addr × Value),
      Paired (fun (p : List Key × V) (q : List Key × Addr × Value) => p.1 = q.1 ∧ H q.2.1 = some (.tup (p.1.map kV)) ∧ RelV p.2 q.2.2) kvs xs ∧
      ∃ o es ep, h.get? a = some o ∧ o.ExactDict ∧ o.data = .dict es ep ∧ es.toList = xs.map (entryOfKey (tupleKind (mixKind P w))) ∧ (xs.map (·.1)).Nodup
  | .set S n => h.SetOf (intKind P w) a S n
  | .ins C dx fs => H dx = some (.own a) ∧ fs.length ≤ 1000 ∧ dx ≠ a ∧ h.get? a = some (PySem.W.instObj C dx) ∧
      ∃ mA, h.Ns1 dx mA ∧ (∀ f, RelO (fs.lookup f) (mA f)) ∧ PySem.Within mA (fs.map (·.1))
  | .own _ => ∃ o, h.get? a = some o
  | .xd fs => ∃ mA, h.Ns1 a mA ∧ ∀ f, RelO (fs.lookup f) (mA f)
  | .rng lo hi => ∃ t u v, h.get? a = some { cls := .type "range", data := .fields #[.int lo t, .int hi u, .int 1 v] }
  | .frz o u => h.get? a = some o ∧ ObjOk H h a u
  | .tbl ps => h.get? a = some { cls := .none, data := .fields ps }
  | .met f x => h.get? a = some (PySem.W.methodObj (.ref f) (.ref x))
  | .ext φ => φ h ∧ (∃ o, h.get? a = some o) ∧ ∀ h1 h2 : Heap, φ h1 → (∀ o, h1.get? a = some o → h2.get? a = some o) → φ h2
/-- the abstract heap is held -/
def HOk (H : Hp) (h : Heap) : Prop := ∀ a o, H a = some o → ObjOk P w H h a o
end

section
variable {P : Program} {w : World} {H H' : Hp} {h h' : Heap} {a : Addr} {o : HO}
theorem ObjOk.lt (x : ObjOk P w H h a o) : a < h.objs.size := by
  cases o with
  | lst xs => obtain ⟨_, _, _, _, e⟩ := x; exact Heap.lt_size e
  | tup xs => obtain ⟨_, _, _, p⟩ := x; exact p.lt
  | dK kvs => obtain ⟨_, _, _, _, o, _, _, e, _⟩ := x; exact Heap.lt_size e
  | dT kvs => obtain ⟨_, _, _, _, o, _, _, e, _⟩ := x; exact Heap.lt_size e
  | set S n => obtain ⟨o, _, _, _, e, _⟩ := x; exact Heap.lt_size e
  | ins C dx fs => obtain ⟨_, _, _, e, _⟩ := x; exact Heap.lt_size e
  | own y => obtain ⟨_, e⟩ := x; exact Heap.lt_size e
  | xd fs => obtain ⟨_, ⟨_, _, _, e, _⟩, _⟩ := x; exact Heap.lt_size e
  | rng lo hi => obtain ⟨_, _, _, e⟩ := x; exact Heap.lt_size e
  | frz ob u => obtain ⟨e, _⟩ := x; exact Heap.lt_size e
  | tbl ps => exact Heap.lt_size (show h.get? a = some _ from x)
  | met f y => exact Heap.lt_size (show h.get? a = some _ from x)
  | ext φ => obtain ⟨_, ⟨_, e⟩, _⟩ := x; exact Heap.lt_size e
theorem Paired.mapP {α β : Type} {F G : α → β → Prop} : ∀ {l₁ : List α} {l₂ : List β}, Paired F l₁ l₂ → (∀ a b, F a b → G a b) → Paired G l₁ l₂
  := by
  intro l₁ l₂ h f
  induction h with
  | nil => exact .nil
  | cons r t ih => exact .cons (f _ _ r) ih
/-- what an object's description leans on: its own object, its own dict, the tuples -/
theorem ObjOk.stay (x : ObjOk P w H h a o) (k : ∀ b u, (b = a ∨ H b = some (.own a)) → h.get? b = some u → h'.get? b = some u)
    (ho : ∀ b, H b = some (.own a) → H' b = some (.own a)) (ht : ∀ b xs, H b = some (.tup xs) → H' b = some (.tup xs)) : ObjOk P w H' h' a o := by
  induction o with
  | lst xs => obtain ⟨z, its, n, r, e⟩ := x; exact ⟨z, its, n, r, k _ _ (.inl rfl) e⟩
  | tup xs => obtain ⟨z, its, r, ob, e, c⟩ := x; exact ⟨z, its, r, ob, k _ _ (.inl rfl) e, c⟩
  | dK kvs => obtain ⟨z, y, vs, r, ob, es, ep, e, c⟩ := x; exact ⟨z, y, vs, r, ob, es, ep, k _ _ (.inl rfl) e, c⟩
  | dT kvs =>
    obtain ⟨z, y, xs, r, ob, es, ep, e, c⟩ := x
    exact ⟨z, y, xs, Paired.mapP r fun p q z => ⟨z.1, ht _ _ z.2.1, z.2.2⟩, ob, es, ep, k _ _ (.inl rfl) e, c⟩
  | set S n => obtain ⟨ob, es, ep, t, e, c⟩ := x; exact ⟨ob, es, ep, t, k _ _ (.inl rfl) e, c⟩
  | ins C dx fs =>
    obtain ⟨d, z, ne, e, mA, ⟨od, es, ep, e2, c⟩, r⟩ := x
    exact ⟨ho _ d, z, ne, k _ _ (.inl rfl) e, mA, ⟨od, es, ep, k _ _ (.inr d) e2, c⟩, r⟩
  | own y => obtain ⟨ob, e⟩ := x; exact ⟨ob, k _ _ (.inl rfl) e⟩
  | xd fs => obtain ⟨mA, ⟨od, es, ep, e, c⟩, r⟩ := x; exact ⟨mA, ⟨od, es, ep, k _ _ (.inl rfl) e, c⟩, r⟩
  | rng lo hi => obtain ⟨t, u, v, e⟩ := x; exact ⟨t, u, v, k _ _ (.inl rfl) e⟩
  | frz ob u ih => obtain ⟨e, q⟩ := x; exact ⟨k _ _ (.inl rfl) e, ih q⟩
  | tbl ps =>
    have e : h.get? a = some { cls := .none, data := .fields ps } := x
    show h'.get? a = some { cls := .none, data := .fields ps }
    exact k a _ (.inl rfl) e
  | met f y =>
    have e : h.get? a = some (PySem.W.methodObj (.ref f) (.ref y)) := x
    show h'.get? a = some (PySem.W.methodObj (.ref f) (.ref y))
    exact k a _ (.inl rfl) e
  | ext φ => obtain ⟨p, ⟨o, e⟩, st⟩ := x; exact ⟨st _ _ p fun o q => k _ _ (.inl rfl) q, ⟨o, k _ _ (.inl rfl) e⟩, st⟩
theorem HOk.lt (x : HOk P w H h) (e : H a = some o) : a < h.objs.size := (x a o e).lt
theorem HOk.fresh (x : HOk P w H h) (e : h.objs.size ≤ a) : H a = none := by
  cases q : H a with
  | none => rfl
  | some u => exact absurd (Nat.lt_of_lt_of_le (x.lt q) e) (Nat.lt_irrefl _)
/-- every object of the heap is kept -/
theorem HOk.kept (x : HOk P w H h) (k : ∀ b u, h.get? b = some u → h'.get? b = some u) : HOk P w H h' := fun a o e =>
  (x a o e).stay (fun b u _ q => k b u q) (fun _ q => q) fun _ _ q => q
/-- a new object is laid and tracked -/
theorem HOk.laid (x : HOk P w H h) (k : ∀ b u, h.get? b = some u → h'.get? b = some u) (hp : h.objs.size ≤ a) (new : ObjOk P w (upd H a o) h' a o) : HOk P w (upd H a o) h' := fun b u e => by
  have hn := x.fresh hp
  by_cases hb : b = a
  · subst hb; rw [upd_same] at e; cases e; exact new
  · rw [upd_ne hb] at e
    exact (x b u e).stay (fun c v _ q => k c v q) (fun c q => by rw [upd_ne (ne_of_none q hn)]; exact q) fun c xs q => by rw [upd_ne (ne_of_none q hn)]; exact q
end

/-- what may be read as u: it is u, or a known u -/
def Rd (H : Hp) (a : Addr) (u : HO) : Prop := H a = some u ∨ ∃ o, H a = some (.frz o u)
theorem Rd.ok {P : Program} {w : World} {H : Hp} {h : Heap} {a : Addr} {u : HO} (r : Rd H a u) (x : HOk P w H h) : ObjOk P w H h a u := by
  rcases r with r | ⟨o, r⟩
  · exact x a u r
  · obtain ⟨_, q⟩ := x a _ r
    exact q
/-- what may be written -/
def Mut : Option HO → Prop
  | some (.lst _) => True
  | some (.dK _) => True
  | some (.dT _) => True
  | some (.set _ _) => True
  | some (.ins _ _ _) => True
  | some (.ext _) => True
  | _ => False
section
variable {P : Program} {w : World} {H : Hp} {h h' : Heap} {x e : Addr} {o' : HO}
/-- the object at e is changed: x itself, or the dict of the instance x -/
theorem HOk.write (ok : HOk P w H h) (mu : Mut (H x)) (he : e = x ∨ H e = some (.own x)) (k : ∀ b u, b ≠ e → h.get? b = some u → h'.get? b = some u) (heo : ∃ u, h'.get? e = some u)
    (new : ObjOk P w (upd H x o') h' x o') : HOk P w (upd H x o') h' := fun b u q => by
  have nown : ∀ c y, H c = some (.own y) → c ≠ x := fun c y r z => by subst z; rw [r] at mu; exact mu
  have ntup : ∀ c xs, H c = some (.tup xs) → c ≠ x := fun c xs r z => by subst z; rw [r] at mu; exact mu
  by_cases hb : b = x
  · subst hb; rw [upd_same] at q; cases q; exact new
  · rw [upd_ne hb] at q
    by_cases hbe : b = e
    · have q' : H b = some (.own x) := by
        rcases he with z | z
        · exact absurd (hbe.trans z) hb
        · rw [hbe]; exact z
      rw [q] at q'; cases q'
      obtain ⟨v, hv⟩ := heo
      exact ⟨v, by rw [hbe]; exact hv⟩
    · refine (ok b u q).stay (fun c v hc r => k c v ?_ r) (fun c r => by rw [upd_ne (nown c b r)]; exact r) fun c xs r => by rw [upd_ne (ntup c xs r)]; exact r
      rcases hc with rfl | hc
      · exact hbe
      · rintro rfl
        rcases he with z | z
        · exact nown c b hc z
        · rw [hc] at z; cases z; exact hb rfl
end

/-! ### kept unless tracked; of the frames at fs (the callers') the slots may change (an exception that passes writes there); of the records at ex (iterators) nothing is said -/
structure Un (fs ex : List Addr) (H H' : Hp) (h h' : Heap) : Prop where
  keep : ∀ b o, h.get? b = some o → H b = none → b ∉ fs → b ∉ ex → h'.get? b = some o
  slot : ∀ b o, h.get? b = some o → H b = none → b ∈ fs → b ∉ ex → ∃ sl, h'.get? b = some { o with slots := sl }
  free : ∀ b o, h.get? b = some o → H b = none → b ∉ ex → H' b = none
  there : ∀ b o, h.get? b = some o → b ∉ ex → ∃ o', h'.get? b = some o'
  tups : ∀ b xs, H b = some (.tup xs) → H' b = some (.tup xs)
  frzs : ∀ b o u, H b = some (.frz o u) → H' b = some (.frz o u)
  tbls : ∀ b ps, H b = some (.tbl ps) → ∃ more, H' b = some (.tbl (ps ++ more))
section
variable {fs fs' ex ex' : List Addr} {H H1 H2 : Hp} {h h1 h2 h' : Heap} {a x e : Addr} {o : HO}
theorem Un.any (u : Un fs ex H H1 h h1) {b : Addr} {ob : Obj} (q : h.get? b = some ob) (n : H b = none) (hx : b ∉ ex) : ∃ sl, h1.get? b = some { ob with slots := sl } := by
  by_cases hb : b ∈ fs
  · exact u.slot b ob q n hb hx
  · exact ⟨ob.slots, u.keep b ob q n hb hx⟩
theorem Un.kept (k : ∀ b u, h.get? b = some u → h'.get? b = some u) : Un fs ex H H h h' :=
  ⟨fun b ob q _ _ _ => k b ob q, fun b ob q _ _ _ => ⟨ob.slots, k b ob q⟩, fun _ _ _ n _ => n, fun b ob q _ => ⟨ob, k b ob q⟩, fun _ _ q => q, fun _ _ _ q => q, fun _ ps q => ⟨#[], by rw [q]; simp⟩⟩
theorem Un.refl : Un fs ex H H h h := Un.kept fun _ _ q => q
theorem Un.laid (k : ∀ b u, h.get? b = some u → h'.get? b = some u) (hp : h.objs.size ≤ a) (hn : H a = none) : Un fs ex H (upd H a o) h h' where
  keep := fun b u q _ _ _ => k b u q
  slot := fun b u q _ _ _ => ⟨u.slots, k b u q⟩
  free := fun b u q n _ => by rw [upd_ne (Nat.ne_of_lt (Nat.lt_of_lt_of_le (Heap.lt_size q) hp))]; exact n
  there := fun b u q _ => ⟨u, k b u q⟩
  tups := fun b xs q => by rw [upd_ne (ne_of_none q hn)]; exact q
  frzs := fun b u xs q => by rw [upd_ne (ne_of_none q hn)]; exact q
  tbls := fun b ps q => ⟨#[], by rw [upd_ne (ne_of_none q hn), q]; simp⟩
theorem Un.write (mu : Mut (H x)) (he : e = x ∨ H e = some (.own x)) (k : ∀ b u, b ≠ e → h.get? b = some u → h'.get? b = some u) (heo : ∃ u, h'.get? e = some u) : Un fs ex H (upd H x o) h h' := by
  have hx : ∀ b, H b = none → b ≠ x := fun b n z => by subst z; rw [n] at mu; exact mu
  have hb : ∀ b, H b = none → b ≠ e := fun b n z => by
    subst z
    rcases he with r | r
    · exact hx b n r
    · rw [n] at r; cases r
  have hm : ∀ b u, H b = some u → ¬ Mut (some u) → b ≠ x := fun b u q nm z => by subst z; rw [q] at mu; exact nm mu
  refine ⟨fun b u q n _ _ => k b u (hb b n) q, fun b u q n _ _ => ⟨u.slots, k b u (hb b n) q⟩, fun b u q n _ => by rw [upd_ne (hx b n)]; exact n, fun b u q _ => ?_,
    fun b xs q => by rw [upd_ne (hm b _ q fun z => z)]; exact q, fun b u xs q => by rw [upd_ne (hm b _ q fun z => z)]; exact q, fun b ps q => ⟨#[], by rw [upd_ne (hm b _ q fun z => z), q]; simp⟩⟩
  by_cases hbe : b = e
  · subst hbe; exact heo
  · exact ⟨u, k b u hbe q⟩
end

/-! ### the heap without what is tracked -/
def trk (h : Heap) (H : Hp) : List Addr := (List.range h.objs.size).filter fun a => (H a).isSome
def hidT (h : Heap) (H : Hp) : Heap := PySem.W.hideAll h (trk h H)
theorem hidT_size (h : Heap) (H : Hp) : (hidT h H).objs.size = h.objs.size := PySem.W.hideAll_size _ _
theorem hidT_get {h : Heap} {H : Hp} {b : Addr} {o : Obj} (e : h.get? b = some o) (n : H b = none) : (hidT h H).get? b = some o :=
  PySem.W.hideAll_get _ e fun hm => by
    have q : (H b).isSome = true := (List.mem_filter.mp hm).2
    rw [n] at q; simp at q
theorem of_hidT {h : Heap} {H : Hp} {b : Addr} {o : Obj} (e : (hidT h H).get? b = some o) : h.get? b = some o ∧ H b = none := by
  have e' : h.get? b = some o := PySem.W.of_hideAll (trk h H) e
  refine ⟨e', ?_⟩
  cases q : H b with
  | none => rfl
  | some x =>
    have hm : b ∈ trk h H := List.mem_filter.mpr ⟨List.mem_range.mpr (Heap.lt_size e'), by simp [q]⟩
    have z : (hidT h H).get? b = none := PySem.W.hideAll_none (trk h H) hm
    rw [z] at e; cases e

/-! ### OpenK's ledger, filled with every new object but one -/
def allNews (g h : Heap) (L : Addr) : List (Addr × Obj) := (List.range h.objs.size).filterMap fun a => if a = L ∨ (g.get? a).isSome = true then none else (h.get? a).map fun o => (a, o)
def rest (g h : Heap) (L d : Addr) : List (Addr × Obj) := (allNews g h L).filter fun p => decide (p.1 ≠ d)
end L2

namespace L2
open PySem PySem.Spec PyProof.Rows

/-- the module's facts, over the base: the heap at the law's entry without what is tracked there -/
structure Mod (K : PySem.W.Frag) (mg : Str → Option Value) (base : Heap) : Prop where
  kin : K.In base
  glob : base.Ns mainGlobals mg
  blt : ∃ mb, base.Ns builtinsNs mb ∧ ∀ x : Str, x ≠ "__name__" → mb x = bootBuiltins x
  nolimit : base.NoLimit

/-- the context: a def's body (or a comprehension's block) running. base: fixed through the whole law; s₀, H₀: the entry; outer: the frames whose slots others may change (a def's callers); stack: all frames that run;
   ex: iterators that were made ahead of the entry and are walked here (a comprehension's); fn: the names whose cells were made at the entry (a def: all; a comprehension's block: its own); calm: not within an except suite; pn: pins that every state bears; xe: what is wanted of an exception that leaves the code -/
structure Cx where
  prog : Program
  w : World
  K : PySem.W.Frag
  mg : Str → Option Value
  base : Heap
  A : Around
  N : List Str
  s₀ : Shared
  H₀ : Hp
  env : Env
  outer : List Env
  stack : List Env
  ex : List Addr
  fn : Str → Bool
  calm : Bool
  pn : List (Addr × Obj)
  xe : Value → Shared → Prop
/-- the callers' frames -/
def frs (l : List Env) : List Addr := l.filterMap (·.frame)
abbrev Cx.fs (X : Cx) : List Addr := frs X.outer

def Vis (sc : Scope) (x : Str) : Prop := sc.names.lookup x = some .local ∨ sc.names.lookup x = some .cell ∨ sc.names.lookup x = some .free
def Loc (sc : Scope) (x : Str) : Prop := sc.names.lookup x = some .local ∨ sc.names.lookup x = some .cell
def Look (env : Env) (h : Heap) (m : Str → Option Value) (x : Str) (u : Value) : Prop :=
  (env.kindOf x = some .local ∧ m x = some u) ∨ ((env.kindOf x = some .cell ∨ env.kindOf x = some .free) ∧ ∃ c, env.cells.lookup x = some c ∧ h.IsCell c (some u))

structure Cx.Ok (X : Cx) : Prop where
  mod : Mod X.K X.mg X.base
  kind : X.env.scope.kind = .function
  glob : X.env.globals = mainGlobals
  blt : X.env.builtins = builtinsNs
  above : X.s₀.heap.objs.size ≤ X.env.locals
  inj : ∀ x y c, X.env.cells.lookup x = some c → X.env.cells.lookup y = some c → x = y
  has : ∀ x, (X.env.kindOf x = some .cell ∨ X.env.kindOf x = some .free) → ∃ c, X.env.cells.lookup x = some c
  cab : ∀ x c, X.fn x = true → X.env.cells.lookup x = some c → X.s₀.heap.objs.size ≤ c
  hd : X.calm = true → X.A.handled = none
  frames : X.A.frames = some X.stack
  stk : X.stack = X.outer ∨ (X.stack = X.env :: X.outer ∧ X.env.frame = some X.env.locals)
  exf : ∀ b ∈ X.ex, b ≠ X.env.locals ∧ ∀ x c, X.env.cells.lookup x = some c → c ≠ b
  bs : ∀ b o, X.base.get? b = some o → X.s₀.heap.get? b = some o ∧ X.H₀ b = none
  bsz : X.base.objs.size ≤ X.s₀.heap.objs.size
  noex : ∀ b o, X.base.get? b = some o → b ∉ X.ex
  exfs : ∀ b ∈ X.ex, b ∉ X.fs
  funs : X.s₀.heap.FunFrames X.base X.outer
  frf : ∀ b ∈ X.fs, X.H₀ b = none

structure Inv (X : Cx) (pins : List (Addr × Obj)) (σ : List (Option V)) (H : Hp) (s : Shared) : Prop where
  ok : X.Ok
  os : s.os = X.s₀.os
  bare : AllBare s.gens
  base : Un X.fs X.ex X.H₀ H X.s₀.heap s.heap
  loc : ∃ m, s.heap.Ns X.env.locals m ∧ ∀ (i : Nat) (x : Str) (v : V), X.N[i]? = some x → σ[i]? = some (some v) → Vis X.env.scope x → ∃ u, RelV v u ∧ Look X.env s.heap m x u
  cell : ∀ x c, X.env.cells.lookup x = some c → ∃ v, s.heap.IsCell c v
  free : H X.env.locals = none
  freeC : ∀ x c, X.env.cells.lookup x = some c → H c = none
  pin : ∀ p ∈ X.pn ++ pins, s.heap.get? p.1 = some p.2 ∧ H p.1 = none ∧ p.1 ≠ X.env.locals ∧ p.1 ∉ X.fs ∧ ∀ v, p.2.data ≠ .cell v
  hok : HOk X.prog X.w H s.heap
  len : σ.length = X.N.length

section
variable {X : Cx} {pins : List (Addr × Obj)} {σ : List (Option V)} {H H' : Hp} {s : Shared} {h' : Heap}

theorem Cx.Ok.nofr (ok : X.Ok) {b : Addr} {o : Obj} (e : X.base.get? b = some o) : b ∉ X.fs := fun hb => by
  have := (ok.funs.mem hb).1
  rw [e] at this; cases this
theorem Inv.bs (I : Inv X pins σ H s) : ∀ b o, X.base.get? b = some o → s.heap.get? b = some o ∧ H b = none := fun b o e =>
  ⟨I.base.keep b o (I.ok.bs b o e).1 (I.ok.bs b o e).2 (I.ok.nofr e) (I.ok.noex b o e), I.base.free b o (I.ok.bs b o e).1 (I.ok.bs b o e).2 (I.ok.noex b o e)⟩
theorem Inv.bk (I : Inv X pins σ H s) : ∀ b o, X.base.get? b = some o → s.heap.get? b = some o := fun b o e => (I.bs b o e).1
theorem Inv.mod (I : Inv X pins σ H s) : Mod X.K X.mg X.base := I.ok.mod
theorem Inv.kIn (I : Inv X pins σ H s) : X.K.In s.heap := I.ok.mod.kin.keeps I.bk
theorem Inv.lt (I : Inv X pins σ H s) : X.env.locals < s.heap.objs.size := let ⟨_, hn, _⟩ := I.loc; hn.lt
theorem Inv.sz (I : Inv X pins σ H s) : X.s₀.heap.objs.size ≤ s.heap.objs.size := Nat.le_trans I.ok.above (Nat.le_of_lt I.lt)
theorem Inv.nofs (I : Inv X pins σ H s) {a : Addr} (h : s.heap.objs.size ≤ a) : a ∉ X.fs := fun hb => by
  obtain ⟨_, o, ho, _⟩ := I.ok.funs.mem hb
  exact absurd (Nat.lt_of_lt_of_le (Heap.lt_size ho) (Nat.le_trans I.sz h)) (Nat.lt_irrefl _)
theorem Inv.cne (I : Inv X pins σ H s) : ∀ x c, X.env.cells.lookup x = some c → c ≠ X.env.locals := fun x c e z => by
  obtain ⟨v, o, ho, hd⟩ := I.cell x c e
  obtain ⟨m, ⟨o', es, ep, ho', hd', _⟩, _⟩ := I.loc
  rw [z, ho'] at ho; cases ho; rw [hd'] at hd; cases hd
theorem Inv.funs (I : Inv X pins σ H s) : s.heap.FunFrames X.base X.outer := by
  have all : ∀ (l : List Env), (∀ b ∈ frs l, b ∈ X.fs) → X.s₀.heap.FunFrames X.base l → s.heap.FunFrames X.base l := by
    intro l
    induction l with
    | nil => intro _ _; trivial
    | cons env r ih =>
      intro hs hl
      obtain ⟨hk, ⟨L, o, hf, hn, ho, hd⟩, hr⟩ := hl
      have hL : L ∈ X.fs := hs L (by unfold frs; rw [List.filterMap_cons, hf]; exact List.mem_cons_self)
      obtain ⟨sl, e⟩ := I.base.slot L o ho (I.ok.frf L hL) hL fun z => I.ok.exfs L z hL
      exact ⟨hk, ⟨L, _, hf, hn, e, hd⟩, ih (fun b hb => hs b (by unfold frs; rw [List.filterMap_cons, hf]; exact List.mem_cons_of_mem _ hb)) hr⟩
  exact all X.outer (fun _ hb => hb) I.ok.funs

/-- the frames that run, for a call -/
theorem Inv.stack (I : Inv X pins σ H s) : s.heap.FunFrames X.base X.stack := by
  rcases I.ok.stk with e | ⟨e, hf⟩
  · rw [e]; exact I.funs
  · rw [e]
    obtain ⟨m, hn, _⟩ := I.loc
    refine .cons (by rw [I.ok.kind]; decide) hf hn ?_ I.funs
    exact Heap.get?_none_of_le (Nat.le_trans I.ok.bsz I.ok.above)
theorem Inv.stkSub (I : Inv X pins σ H s) : ∀ b ∈ frs X.stack, b ∈ X.env.locals :: X.fs := fun b hb => by
  rcases I.ok.stk with e | ⟨e, hf⟩
  · rw [e] at hb; exact List.mem_cons_of_mem _ hb
  · rw [e] at hb
    unfold frs at hb
    rw [List.filterMap_cons, hf] at hb
    exact hb
theorem Inv.stkFree (I : Inv X pins σ H s) : ∀ b ∈ frs X.stack, H b = none := fun b hb => by
  rcases List.mem_cons.mp (I.stkSub b hb) with e | hb
  · rw [e]; exact I.free
  · obtain ⟨_, o, ho, _⟩ := I.ok.funs.mem hb
    exact I.base.free b o ho (I.ok.frf b hb) fun z => I.ok.exfs b z hb

/-- THE STEP: the untracked objects but the frame and the records at ch are kept (the callers' frames up to slots), the frame's map is kept, the new abstract heap is held -/
theorem Inv.step {g' : Array GenState} {t' : Nat} {d' : Drawn} {ch : List Addr} (I : Inv X pins σ H s)
    (hch : ∀ b ∈ ch, (b ∈ X.ex ∨ X.s₀.heap.objs.size ≤ b) ∧ b ≠ X.env.locals ∧ (∀ x c, X.env.cells.lookup x = some c → c ≠ b) ∧ ∀ p ∈ X.pn ++ pins, p.1 ≠ b)
    (keep : ∀ b o, b ≠ X.env.locals → b ∉ X.fs → b ∉ ch → s.heap.get? b = some o → H b = none → h'.get? b = some o)
    (slot : ∀ b o, b ≠ X.env.locals → b ∈ X.fs → b ∉ ch → s.heap.get? b = some o → H b = none → ∃ sl, h'.get? b = some { o with slots := sl }) (free : ∀ b o, b ∉ ch → s.heap.get? b = some o → H b = none → H' b = none)
    (there : ∀ b o, b ∉ ch → s.heap.get? b = some o → ∃ o', h'.get? b = some o')
    (tups : ∀ b xs, H b = some (.tup xs) → H' b = some (.tup xs)) (frzs : ∀ b o u, H b = some (.frz o u) → H' b = some (.frz o u)) (tbls : ∀ b ps, H b = some (.tbl ps) → ∃ more, H' b = some (.tbl (ps ++ more)))
    (ns : ∀ m, s.heap.Ns X.env.locals m → h'.Ns X.env.locals m) (hok : HOk X.prog X.w H' h') (hg : AllBare g') :
    Inv X pins σ H' { s with heap := h', gens := g', drawn := d', toks := t' } := by
  have neL : ∀ b o, X.s₀.heap.get? b = some o → b ≠ X.env.locals := fun b o e => Nat.ne_of_lt (Nat.lt_of_lt_of_le (Heap.lt_size e) I.ok.above)
  have neC : ∀ b o, X.s₀.heap.get? b = some o → b ∉ X.ex → b ∉ ch := fun b o e hx hb => by
    rcases (hch b hb).1 with z | z
    · exact hx z
    · exact absurd (Nat.lt_of_lt_of_le (Heap.lt_size e) z) (Nat.lt_irrefl _)
  have cellK : ∀ x c, X.env.cells.lookup x = some c → ∀ v, s.heap.IsCell c v → h'.IsCell c v := fun x c e v ⟨o, ho, hd⟩ => by
    have nch : c ∉ ch := fun z => (hch c z).2.2.1 x c e rfl
    by_cases hc : c ∈ X.fs
    · obtain ⟨sl, q⟩ := slot c o (I.cne x c e) hc nch ho (I.freeC x c e)
      exact ⟨_, q, hd⟩
    · exact ⟨o, keep c o (I.cne x c e) hc nch ho (I.freeC x c e), hd⟩
  refine ⟨I.ok, I.os, hg, ⟨fun b o e n hb hx => ?_, fun b o e n hb hx => ?_, fun b o e n hx => ?_, fun b o e hx => ?_, fun b xs e => tups b xs (I.base.tups b xs e), fun b o xs e => frzs b o xs (I.base.frzs b o xs e), fun b ps e => ?_⟩, ?_, fun x c e => ?_, ?_, fun x c e => ?_, fun p hp => ?_, hok, I.len⟩
  · exact keep b o (neL b o e) hb (neC b o e hx) (I.base.keep b o e n hb hx) (I.base.free b o e n hx)
  · obtain ⟨sl, e1⟩ := I.base.slot b o e n hb hx
    obtain ⟨sl', e2⟩ := slot b _ (neL b o e) hb (neC b o e hx) e1 (I.base.free b o e n hx)
    exact ⟨sl', e2⟩
  · obtain ⟨o', e1⟩ := I.base.there b o e hx
    exact free b o' (neC b o e hx) e1 (I.base.free b o e n hx)
  · obtain ⟨o', e1⟩ := I.base.there b o e hx
    exact there b o' (neC b o e hx) e1
  · obtain ⟨m1, e1⟩ := I.base.tbls b ps e
    obtain ⟨m2, e2⟩ := tbls b _ e1
    exact ⟨m1 ++ m2, by rw [e2, Array.append_assoc]⟩
  · obtain ⟨m, hn, hl⟩ := I.loc
    refine ⟨m, ns m hn, fun i x v e1 e2 e3 => ?_⟩
    obtain ⟨u, r, l⟩ := hl i x v e1 e2 e3
    refine ⟨u, r, ?_⟩
    rcases l with l | ⟨k, c, e, z⟩
    · exact .inl l
    · exact .inr ⟨k, c, e, cellK x c e _ z⟩
  · obtain ⟨v, z⟩ := I.cell x c e
    exact ⟨v, cellK x c e v z⟩
  · obtain ⟨m, ⟨o, _, _, ho, _⟩, _⟩ := I.loc
    exact free _ o (fun z => (hch _ z).2.1 rfl) ho I.free
  · obtain ⟨v, o, ho, hd⟩ := I.cell x c e
    exact free c o (fun z => (hch c z).2.2.1 x c e rfl) ho (I.freeC x c e)
  · obtain ⟨e, n, ne, nf, d⟩ := I.pin p hp
    have nch : p.1 ∉ ch := fun z => (hch p.1 z).2.2.2 p hp rfl
    exact ⟨keep p.1 p.2 ne nf nch e n, free p.1 p.2 nch e n, ne, nf, d⟩
/-- .. where the frame's own object is kept too -/
theorem Inv.un {t' : Nat} (I : Inv X pins σ H s) (u : Un X.fs [] H H' s.heap h') (hok : HOk X.prog X.w H' h') : Inv X pins σ H' { s with heap := h', toks := t' } := by
  obtain ⟨m, ⟨o, es, ep, ho, r⟩, _⟩ := id I.loc
  obtain ⟨sl, hL⟩ := u.any ho I.free (by simp)
  exact I.step (g' := s.gens) (d' := s.drawn) (ch := []) (fun _ z => nomatch z) (fun b o _ hb _ e n => u.keep b o e n hb (by simp)) (fun b o _ hb _ e n => u.slot b o e n hb (by simp)) (fun b o _ e n => u.free b o e n (by simp)) (fun b o _ e => u.there b o e (by simp)) u.tups u.frzs u.tbls (fun m' hm => by
    obtain ⟨o', es', ep', ho', r'⟩ := hm
    rw [ho] at ho'; cases ho'
    exact ⟨_, es', ep', hL, r'⟩) hok I.bare
/-- behind a call (or a comprehension's block): the slots of this frame may have changed too, the records at ch may have turned -/
theorem Inv.call {g' : Array GenState} {t' : Nat} {d' : Drawn} {ch : List Addr} (I : Inv X pins σ H s) (u : Un (frs X.stack) ch H H' s.heap h') (hok : HOk X.prog X.w H' h') (hg : AllBare g')
    (hch : ∀ b ∈ ch, (b ∈ X.ex ∨ X.s₀.heap.objs.size ≤ b) ∧ b ≠ X.env.locals ∧ (∀ x c, X.env.cells.lookup x = some c → c ≠ b) ∧ ∀ p ∈ X.pn ++ pins, p.1 ≠ b) :
    Inv X pins σ H' { s with heap := h', gens := g', drawn := d', toks := t' } := by
  obtain ⟨m, ⟨o, es, ep, ho, r⟩, _⟩ := id I.loc
  obtain ⟨sl, hL⟩ := u.any ho I.free fun z => (hch _ z).2.1 rfl
  exact I.step (ch := ch) hch (fun b o hL hb hc e n => u.keep b o e n (fun z => (List.mem_cons.mp (I.stkSub b z)).elim hL hb) hc) (fun b o _ _ hc e n => u.any e n hc) (fun b o hc e n => u.free b o e n hc) (fun b o hc e => u.there b o e hc) u.tups u.frzs u.tbls (fun m' hm => by
    obtain ⟨o', es', ep', ho', r'⟩ := hm
    rw [ho] at ho'; cases ho'
    exact ⟨_, es', ep', hL, r'⟩) hok hg
/-- an untracked record of ours (an iterator) has turned -/
theorem Inv.turned {t' : Nat} {it : Addr} (I : Inv X pins σ H s) (k : ∀ b o, b ≠ it → s.heap.get? b = some o → h'.get? b = some o) (hn : H it = none) (hL : it ≠ X.env.locals)
    (h1 : it ∈ X.ex ∨ X.s₀.heap.objs.size ≤ it) (h2 : ∀ x c, X.env.cells.lookup x = some c → c ≠ it) (h3 : ∀ p ∈ X.pn ++ pins, p.1 ≠ it) : Inv X pins σ H { s with heap := h', toks := t' } := by
  have nit : ∀ b u, H b = some u → b ≠ it := fun b u e z => by rw [z, hn] at e; cases e
  refine I.step (g' := s.gens) (d' := s.drawn) (ch := [it]) (fun b hb => ?_) (fun b o _ _ hc e _ => k b o (fun z => hc (by simp [z])) e) (fun b o _ _ hc e _ => ⟨o.slots, k b o (fun z => hc (by simp [z])) e⟩) (fun _ _ _ _ n => n)
    (fun b o hc e => ⟨o, k b o (fun z => hc (by simp [z])) e⟩) (fun _ _ e => e) (fun _ _ _ e => e) (fun b ps e => ⟨#[], by rw [e]; simp⟩) (fun m hm => ?_) (fun b u e => ?_) I.bare
  · have e : b = it := by simpa using hb
    subst e
    exact ⟨h1, hL, h2, h3⟩
  · obtain ⟨o, es, ep, ho, r⟩ := hm
    exact ⟨o, es, ep, k _ o (Ne.symm hL) ho, r⟩
  · refine (I.hok b u e).stay (fun c v hc q => k c v ?_ q) (fun _ q => q) fun _ _ q => q
    rcases hc with z | z
    · rw [z]; exact nit b u e
    · exact nit c _ z
theorem Inv.tok (I : Inv X pins σ H s) (t : Nat) : Inv X pins σ H { s with toks := t } := I.un (h' := s.heap) (t' := t) Un.refl I.hok
/-- all objects kept -/
theorem Inv.kept {t' : Nat} (I : Inv X pins σ H s) (k : ∀ b u, s.heap.get? b = some u → h'.get? b = some u) : Inv X pins σ H { s with heap := h', toks := t' } := I.un (Un.kept k) (I.hok.kept k)
/-- a new object laid and tracked -/
theorem Inv.laid {a : Addr} {o : HO} {t' : Nat} (I : Inv X pins σ H s) (k : ∀ b u, s.heap.get? b = some u → h'.get? b = some u) (hp : s.heap.objs.size ≤ a) (new : ObjOk X.prog X.w (upd H a o) h' a o) :
    Inv X pins σ (upd H a o) { s with heap := h', toks := t' } := I.un (Un.laid k hp (I.hok.fresh hp)) (I.hok.laid k hp new)
/-- an object written -/
theorem Inv.write {x e : Addr} {o : HO} {t' : Nat} (I : Inv X pins σ H s) (mu : Mut (H x)) (he : e = x ∨ H e = some (.own x)) (k : ∀ b u, b ≠ e → s.heap.get? b = some u → h'.get? b = some u) (heo : ∃ u, h'.get? e = some u)
    (new : ObjOk X.prog X.w (upd H x o) h' x o) : Inv X pins σ (upd H x o) { s with heap := h', toks := t' } := I.un (Un.write mu he k heo) (I.hok.write mu he k heo new)
theorem Inv.pins_of {pins' : List (Addr × Obj)} (I : Inv X pins σ H s) (h : ∀ p ∈ pins', s.heap.get? p.1 = some p.2 ∧ H p.1 = none ∧ p.1 ≠ X.env.locals ∧ p.1 ∉ X.fs ∧ ∀ v, p.2.data ≠ .cell v) : Inv X pins' σ H s :=
  ⟨I.ok, I.os, I.bare, I.base, I.loc, I.cell, I.free, I.freeC, fun p hp => (List.mem_append.mp hp).elim (fun z => I.pin p (List.mem_append_left _ z)) (h p), I.hok, I.len⟩

theorem nodup_ix {N : List Str} (hN : N.Nodup) {i j : Nat} {x : Str} (a : N[i]? = some x) (b : N[j]? = some x) : i = j := by
  obtain ⟨h1, e1⟩ := List.getElem?_eq_some_iff.mp a
  obtain ⟨h2, e2⟩ := List.getElem?_eq_some_iff.mp b
  exact (List.getElem_inj hN).mp (e1.trans e2.symm)

/-- a name is stored; what changed -/
theorem store_ok2 {M : Model} {A : Around} {E : Value → Shared → Prop} {i : Nat} {x : Str} {v : V} {u : Value} {Q : Unit → Shared → Prop} (I : Inv X pins σ H s) (hN : X.N.Nodup) (hi : X.N[i]? = some x) (hx : Loc X.env.scope x) (r : RelV v u)
    (h : ∀ s', Inv X pins (σ.set i (some v)) H s' → (∃ a, Heap.SameBut a s.heap s'.heap ∧ (a = X.env.locals ∨ X.env.cells.lookup x = some a)) → Q () s') (hf : X.fn x = true ∨ X.env.scope.names.lookup x = some .local := by first | exact .inl rfl | exact .inr rfl | assumption) : wpAny M A (storeName X.env x u) Q E s := by
  obtain ⟨m, hn, hl⟩ := id I.loc
  have hcls : (X.env.scope.kind == .class || (X.env.scope.kind == .module && X.env.locals != X.env.globals)) = false := by rw [I.ok.kind]; rfl
  have hiσ : i < σ.length := by rw [I.len]; exact (List.getElem?_eq_some_iff.mp hi).1
  have cne := I.cne
  have tracked : ∀ {a : Addr} {h' : Heap}, (∃ o, s.heap.get? a = some o ∧ H a = none) → Heap.SameBut a s.heap h' → HOk X.prog X.w H h' := fun {a h'} ha hs b ob e => by
    obtain ⟨_, _, hfree⟩ := ha
    refine (I.hok b ob e).stay (fun c w' hc q => (hs.2 c ?_).trans q) (fun _ q => q) fun _ _ q => q
    rintro rfl
    rcases hc with rfl | hc
    · rw [hfree] at e; cases e
    · rw [hfree] at hc; cases hc
  rcases hx with hk | hk
  · refine wpAny_storeName_local hk hn (fun h' hn' hs => ?_) hcls
    obtain ⟨oL, _, _, hoL, _⟩ := id hn
    refine h _ ⟨I.ok, I.os, I.bare, ⟨fun b o e n hb hx => ?_, fun b o e n hb hx => ?_, I.base.free, fun b o e hx => ?_, I.base.tups, I.base.frzs, I.base.tbls⟩, ⟨_, hn', fun j y v' e1 e2 e3 => ?_⟩, fun y c e => ?_, I.free, I.freeC, fun p hp => ?_, tracked ⟨oL, hoL, I.free⟩ hs, by simpa using I.len⟩ ⟨_, hs, .inl rfl⟩
    · exact (hs.2 b (Nat.ne_of_lt (Nat.lt_of_lt_of_le (Heap.lt_size e) I.ok.above))).trans (I.base.keep b o e n hb hx)
    · obtain ⟨sl, e1⟩ := I.base.slot b o e n hb hx
      exact ⟨sl, (hs.2 b (Nat.ne_of_lt (Nat.lt_of_lt_of_le (Heap.lt_size e) I.ok.above))).trans e1⟩
    · obtain ⟨o', e1⟩ := I.base.there b o e hx
      exact ⟨o', (hs.2 b (Nat.ne_of_lt (Nat.lt_of_lt_of_le (Heap.lt_size e) I.ok.above))).trans e1⟩
    · by_cases hj : j = i
      · subst hj
        rw [hi] at e1; cases e1
        rw [List.getElem?_set_self hiσ] at e2
        cases e2
        exact ⟨u, r, .inl ⟨hk, by simp⟩⟩
      · rw [List.getElem?_set_ne (Ne.symm hj)] at e2
        obtain ⟨u', r', q⟩ := hl j y v' e1 e2 e3
        refine ⟨u', r', ?_⟩
        rcases q with ⟨k, e⟩ | ⟨k, c, e, z⟩
        · refine .inl ⟨k, ?_⟩
          have : y ≠ x := fun e => hj (nodup_ix hN e1 (e ▸ hi))
          simp [this, e]
        · exact .inr ⟨k, c, e, z.sameBut hs (cne y c e)⟩
    · obtain ⟨w', z⟩ := I.cell y c e
      exact ⟨w', z.sameBut hs (cne y c e)⟩
    · obtain ⟨e, n, ne, nf, d⟩ := I.pin p hp
      exact ⟨(hs.2 p.1 ne).trans e, n, ne, nf, d⟩
  · have hfn : X.fn x = true := by
      rcases hf with z | z
      · exact z
      · rw [z] at hk; cases hk
    obtain ⟨c, hc⟩ := I.ok.has x (.inl hk)
    obtain ⟨w', z⟩ := I.cell x c hc
    refine wpAny_storeName_cell I.ok.kind hk hc z (fun h' hc' hs => ?_)
    obtain ⟨oc, hoc, hocd⟩ := id z
    refine h { s with heap := h' } ⟨I.ok, I.os, I.bare, ⟨fun b o e n hb hx => ?_, fun b o e n hb hx => ?_, I.base.free, fun b o e hx => ?_, I.base.tups, I.base.frzs, I.base.tbls⟩, ⟨m, hn.sameBut hs (Ne.symm (cne x c hc)), fun j y v' e1 e2 e3 => ?_⟩, fun y c' e => ?_, I.free, I.freeC, fun p hp => ?_, tracked ⟨oc, hoc, I.freeC x c hc⟩ hs, by simpa using I.len⟩ ⟨c, hs, .inr hc⟩
    · exact (hs.2 b (Nat.ne_of_lt (Nat.lt_of_lt_of_le (Heap.lt_size e) (I.ok.cab x c hfn hc)))).trans (I.base.keep b o e n hb hx)
    · obtain ⟨sl, e1⟩ := I.base.slot b o e n hb hx
      exact ⟨sl, (hs.2 b (Nat.ne_of_lt (Nat.lt_of_lt_of_le (Heap.lt_size e) (I.ok.cab x c hfn hc)))).trans e1⟩
    · obtain ⟨o', e1⟩ := I.base.there b o e hx
      exact ⟨o', (hs.2 b (Nat.ne_of_lt (Nat.lt_of_lt_of_le (Heap.lt_size e) (I.ok.cab x c hfn hc)))).trans e1⟩
    · by_cases hj : j = i
      · subst hj
        rw [hi] at e1; cases e1
        rw [List.getElem?_set_self hiσ] at e2
        cases e2
        exact ⟨u, r, .inr ⟨.inl hk, c, hc, hc'⟩⟩
      · rw [List.getElem?_set_ne (Ne.symm hj)] at e2
        obtain ⟨u', r', q⟩ := hl j y v' e1 e2 e3
        refine ⟨u', r', ?_⟩
        rcases q with q | ⟨k, c', e, z'⟩
        · exact .inl q
        · refine .inr ⟨k, c', e, z'.sameBut hs ?_⟩
          rintro rfl
          exact hj (nodup_ix hN e1 (I.ok.inj _ _ _ e hc ▸ hi))
    · by_cases hcc : c' = c
      · subst hcc; exact ⟨_, hc'⟩
      · obtain ⟨w2, z2⟩ := I.cell y c' e
        exact ⟨w2, z2.sameBut hs hcc⟩
    · obtain ⟨e, n, ne, nf, d⟩ := I.pin p hp
      refine ⟨(hs.2 p.1 ?_).trans e, n, ne, nf, d⟩
      intro q
      rw [q, hoc] at e
      have q' : oc = p.2 := Option.some.inj e
      exact d w' (by rw [← q']; exact hocd)
theorem store_ok {M : Model} {A : Around} {E : Value → Shared → Prop} {i : Nat} {x : Str} {v : V} {u : Value} {Q : Unit → Shared → Prop} (I : Inv X pins σ H s) (hN : X.N.Nodup) (hi : X.N[i]? = some x) (hx : Loc X.env.scope x) (r : RelV v u)
    (h : ∀ s', Inv X pins (σ.set i (some v)) H s' → Q () s') (hf : X.fn x = true ∨ X.env.scope.names.lookup x = some .local := by first | exact .inl rfl | exact .inr rfl | assumption) : wpAny M A (storeName X.env x u) Q E s :=
  store_ok2 I hN hi hx r (fun s' I' _ => h s' I') hf
/-- behind a call or a block, the state as it is -/
theorem Inv.call' {s' : Shared} {ch : List Addr} (I : Inv X pins σ H s) (ho : s'.os = s.os) (u : Un (frs X.stack) ch H H' s.heap s'.heap) (hok : HOk X.prog X.w H' s'.heap) (hg : AllBare s'.gens)
    (hch : ∀ b ∈ ch, (b ∈ X.ex ∨ X.s₀.heap.objs.size ≤ b) ∧ b ≠ X.env.locals ∧ (∀ x c, X.env.cells.lookup x = some c → c ≠ b) ∧ ∀ p ∈ X.pn ++ pins, p.1 ≠ b) : Inv X pins σ H' s' := by
  obtain ⟨h', g', d', t', o'⟩ := s'
  have e : o' = s.os := ho
  subst e
  exact I.call (g' := g') (t' := t') (d' := d') u hok hg hch
end

/-! ### the judgements -/
/-- an exception: its class, its own dict's address (where it has one), the abstract heap behind it -/
abbrev XK := Value → Option Addr → Hp → Prop
abbrev St := List (Option V)
abbrev VK := V → Hp → Prop
/-- an expression's reading; a test's; an argument list's -/
abbrev TE := St → Hp → VK → Prop
abbrev TT := St → Hp → (Bool → Hp → Prop) → Prop
abbrev TA := St → Hp → (List V → Hp → Prop) → Prop
/-- what is wanted behind a statement -/
structure Ends where
  nx : St → Hp → Prop
  rt : VK
  bk : St → Hp → Prop := fun _ _ => False
  ct : St → Hp → Prop := fun _ _ => False
abbrev TS := Ends → St → Hp → Prop

def EP (X : Cx) (pins : List (Addr × Obj)) (σ : St) (Q : VK) (u : Value) (s' : Shared) : Prop := ∃ v H', Inv X pins σ H' s' ∧ RelV v u ∧ Q v H'
def TP (X : Cx) (pins : List (Addr × Obj)) (σ : St) (Q : Bool → Hp → Prop) (b : Bool) (s' : Shared) : Prop := ∃ H', Inv X pins σ H' s' ∧ Q b H'
def AP (X : Cx) (pins : List (Addr × Obj)) (σ : St) (Q : List V → Hp → Prop) (us : List Value) (s' : Shared) : Prop := ∃ vs H', Inv X pins σ H' s' ∧ Vals vs us ∧ Q vs H'
def SP (X : Cx) (pins : List (Addr × Obj)) (D : Ends) (f : Flow) (s' : Shared) : Prop :=
  match f with
  | .next => ∃ σ' H', Inv X pins σ' H' s' ∧ D.nx σ' H'
  | .brk => ∃ σ' H', Inv X pins σ' H' s' ∧ D.bk σ' H'
  | .cont => ∃ σ' H', Inv X pins σ' H' s' ∧ D.ct σ' H'
  | .ret u => ∃ v σ' H', Inv X pins σ' H' s' ∧ RelV v u ∧ D.rt v H'

def PE (X : Cx) (e : Expr) (t : TE) : Prop :=
  ∀ (pins : List (Addr × Obj)) (s : Shared) (σ : St) (H : Hp) (Q : VK), Inv X pins σ H s → t σ H Q → wpAny (model X.prog X.w) X.A (eval e X.env) (EP X pins σ Q) X.xe s
def PT (X : Cx) (e : Expr) (t : TT) : Prop :=
  ∀ (pins : List (Addr × Obj)) (s : Shared) (σ : St) (H : Hp) (Q : Bool → Hp → Prop), Inv X pins σ H s → t σ H Q → wpAny (model X.prog X.w) X.A (isTrue e X.env (eval e X.env)) (TP X pins σ Q) X.xe s
/-- a test whatever its 'whole' is (and, or) -/
def PW (X : Cx) (e : Expr) (t : TT) : Prop :=
  ∀ (whole : Sem Value) (pins : List (Addr × Obj)) (s : Shared) (σ : St) (H : Hp) (Q : Bool → Hp → Prop), Inv X pins σ H s → t σ H Q → wpAny (model X.prog X.w) X.A (isTrue e X.env whole) (TP X pins σ Q) X.xe s
theorem PW.pt {X : Cx} {e : Expr} {t : TT} (h : PW X e t) : PT X e t := h _
/-- an argument list (no star), from the left -/
def PA (X : Cx) (es : List Expr) (t : TA) : Prop :=
  ∀ (pos : Pos) (pins : List (Addr × Obj)) (s : Shared) (σ : St) (H : Hp) (Q : List V → Hp → Prop), Inv X pins σ H s → t σ H Q → wpAny (model X.prog X.w) X.A (spliced (backTo pos (starEach es X.env))) (AP X pins σ Q) X.xe s
def PS (X : Cx) (st : Stmt) (t : TS) : Prop :=
  ∀ (pins : List (Addr × Obj)) (s : Shared) (σ : St) (H : Hp) (D : Ends), Inv X pins σ H s → t D σ H → wpAny (model X.prog X.w) X.A (exec st X.env) (SP X pins D) X.xe s
def PSs (X : Cx) (st : List Stmt) (t : TS) : Prop :=
  ∀ (pins : List (Addr × Obj)) (s : Shared) (σ : St) (H : Hp) (D : Ends), Inv X pins σ H s → t D σ H → wpAny (model X.prog X.w) X.A (execs st X.env) (SP X pins D) X.xe s
/-- weaken the end -/
theorem thn {α : Type} {t : Sem α} {Q Q' : α → Shared → Prop} {M : Model} {A : Around} {E : Value → Shared → Prop} {s : Shared} (h : wpAny M A t Q E s) (hQ : ∀ a s, Q a s → Q' a s) : wpAny M A t Q' E s := wpAny_mono h hQ fun _ _ x => x
end L2

namespace L2
open PySem PySem.Spec PyProof.Rows
section
variable {X : Cx}

/-! ### names and constants -/
def tVar (i : Nat) : TE := fun σ H Q => ∃ v, σ[i]? = some (some v) ∧ Q v H
def tC (v : V) : TE := fun _ H Q => Q v H
theorem pe_var {i : Nat} {x : Str} {pos : Pos} (hN : X.N[i]? = some x) (hv : Vis X.env.scope x) (hd : (x == ("__debug__" : Str)) = false := by decide) (hcd : (x == ("__classdict__" : Str)) = false := by decide) : PE X (.Name x pos) (tVar i) := by
  intro pins s σ H Q I h
  obtain ⟨v, e, h⟩ := h
  obtain ⟨m, hn, hl⟩ := I.loc
  obtain ⟨u, r, l⟩ := hl i x v hN e hv
  have fin : EP X pins σ Q u s := ⟨v, H, I, r, h⟩
  rcases l with ⟨hk, hm⟩ | ⟨hk, c, hc, hcell⟩
  · exact wpAny_Name (wpAny_loadName_local I.ok.kind hk hn hm fin) hd
  · rcases hk with hk | hk
    · exact wpAny_Name (wpAny_loadName_cell I.ok.kind hk hc hcell fin) hd
    · exact wpAny_Name (wpAny_loadName_free I.ok.kind hk hc hcell fin hcd) hd
theorem pe_int {i j pos} : PE X (.Constant (.int i) j pos) (tC (.int i)) := fun _ _ _ H _ I h => wpAny_Constant_int ⟨.int i, H, I.tok _, ⟨_, rfl⟩, h⟩
theorem pe_bl {b j pos} : PE X (.Constant (.bool b) j pos) (tC (.bl b)) := fun _ _ _ H _ I h => Constant_bool ⟨.bl b, H, I, rfl, h⟩
theorem pe_non {j pos} : PE X (.Constant .none j pos) (tC .non) := fun _ _ _ H _ I h => Constant_none ⟨.non, H, I, rfl, h⟩
theorem pe_str {x j pos} : PE X (.Constant (.str x) j pos) (tC (.str x)) := fun _ _ _ H _ I h => Calls.Constant_str ⟨.str x, H, I.tok _, ⟨_, rfl⟩, h⟩

/-- a global name of the def -/
def Gl (X : Cx) (x : Str) : Prop := X.env.kindOf x = some .globalImplicit
theorem ld_glob {E : Value → Shared → Prop} {pins : List (Addr × Obj)} {s : Shared} {σ : St} {H : Hp} {x : Str} {u : Value} {pos : Pos} {Q : Value → Shared → Prop} (I : Inv X pins σ H s) (hg : Gl X x) (hm : X.mg x = some u) (h : Q u s)
    (hd : (x == ("__debug__" : Str)) = false := by decide) : wpAny (model X.prog X.w) X.A (eval (.Name x pos) X.env) Q E s :=
  Calls.Name_function_global I.ok.kind hg (Calls.loadGlobal_global (by rw [I.ok.glob]; exact I.mod.glob.keeps I.bk) hm h) hd
theorem ld_blt {E : Value → Shared → Prop} {pins : List (Addr × Obj)} {s : Shared} {σ : St} {H : Hp} {x : Str} {u : Value} {pos : Pos} {Q : Value → Shared → Prop} (I : Inv X pins σ H s) (hg : Gl X x) (hm : X.mg x = none) (hv : bootBuiltins x = some u) (h : Q u s)
    (hn : x ≠ "__name__" := by decide) (hd : (x == ("__debug__" : Str)) = false := by decide) : wpAny (model X.prog X.w) X.A (eval (.Name x pos) X.env) Q E s := by
  obtain ⟨mb, h1, h2⟩ := I.mod.blt
  exact Calls.Name_function_global I.ok.kind hg (Calls.loadGlobal_builtin (by rw [I.ok.glob]; exact I.mod.glob.keeps I.bk) hm (by rw [I.ok.blt]; exact h1.keeps I.bk) ((h2 x hn).trans hv) h) hd
/-- a module's constant, a class, a function, as a value -/
theorem pe_glob {x : Str} {v : V} {u : Value} {pos : Pos} (hg : Gl X x) (hm : X.mg x = some u) (r : RelV v u) (hd : (x == ("__debug__" : Str)) = false := by decide) : PE X (.Name x pos) (tC v) :=
  fun _ _ _ H _ I h => ld_glob I hg hm ⟨v, H, I, r, h⟩ hd
theorem pe_bltn {x : Str} {v : V} {u : Value} {pos : Pos} (hg : Gl X x) (hm : X.mg x = none) (hv : bootBuiltins x = some u) (r : RelV v u) (hn : x ≠ "__name__" := by decide) (hd : (x == ("__debug__" : Str)) = false := by decide) : PE X (.Name x pos) (tC v) :=
  fun _ _ _ H _ I h => ld_blt I hg hm hv ⟨v, H, I, r, h⟩ hn hd

/-! ### arithmetic -/
variable {a b : Expr} {ta tb : TE} {pos : Pos}
/-! ### comparisons -/
/-- a comparison as a value, as a test -/
def tB (t : TE) : TT := fun σ H Q => t σ H fun x H1 => ∃ c, x = .bl c ∧ Q c H1
/-- an expression whose value is a bool, as a test -/
theorem pt_val {e : Expr} {t : TE} (h : PE X e t) (he : ∀ whole, isTrue e X.env whole = (do let v ← whole; standAt e.pos; holding [v] (truthy v)) := by intro _; rfl) : PT X e (tB t) := by
  intro pins s σ H Q I hw
  refine isTrue_plain (thn (h pins s σ H _ I hw) fun v s1 ⟨x, H1, I1, r1, q1⟩ => ?_) (he _)
  obtain ⟨d, rfl, q⟩ := q1
  cases r1
  exact wpAny_truthy_bool ⟨H1, I1, q⟩

/-! ### and, or, not -/
variable {tA tB' : TT} {rest : List Expr}
def tAnd (t u : TT) : TT := fun σ H Q => t σ H fun c H1 => if c = true then u σ H1 Q else Q false H1
def tOr (t u : TT) : TT := fun σ H Q => t σ H fun c H1 => if c = true then Q true H1 else u σ H1 Q
def tNot (t : TT) : TT := fun σ H Q => t σ H fun c H1 => Q (!c) H1
theorem pw_and1 (ha : PT X a tA) : PW X (.BoolOp .And [a] pos) tA := by
  intro wh pins s σ H Q I h
  refine isTrue_and (thn (ha pins s σ H Q I h) fun c s1 e => ?_)
  cases c with
  | true => exact isTrue_and_nil e
  | false => exact e
theorem pw_or1 (ha : PT X a tA) : PW X (.BoolOp .Or [a] pos) tA := by
  intro wh pins s σ H Q I h
  refine isTrue_or (thn (ha pins s σ H Q I h) fun c s1 e => ?_)
  cases c with
  | false => exact isTrue_or_nil e
  | true => exact e
theorem pw_and (ha : PT X a tA) (hb : PW X (.BoolOp .And (b :: rest) pos) tB') : PW X (.BoolOp .And (a :: b :: rest) pos) (tAnd tA tB') := by
  intro wh pins s σ H Q I h
  refine isTrue_and (thn (ha pins s σ H _ I h) fun c s1 ⟨H1, I1, q1⟩ => ?_)
  cases c with
  | true => exact hb wh pins s1 σ H1 Q I1 q1
  | false => exact ⟨H1, I1, q1⟩
theorem pw_or (ha : PT X a tA) (hb : PW X (.BoolOp .Or (b :: rest) pos) tB') : PW X (.BoolOp .Or (a :: b :: rest) pos) (tOr tA tB') := by
  intro wh pins s σ H Q I h
  refine isTrue_or (thn (ha pins s σ H _ I h) fun c s1 ⟨H1, I1, q1⟩ => ?_)
  cases c with
  | true => exact ⟨H1, I1, q1⟩
  | false => exact hb wh pins s1 σ H1 Q I1 q1
theorem pt_not (ha : PT X a tA) : PT X (.UnaryOp .Not a pos) (tNot tA) := by
  intro pins s σ H Q I h
  exact isTrue_not (ha pins s σ H (fun c H1 => Q (!c) H1) I h)
/-- .. as values (bools) -/
def tAndV (ta tb : TE) : TE := fun σ H Q => ta σ H fun x H1 => ∃ c, x = .bl c ∧ if c = true then tb σ H1 Q else Q (.bl false) H1
def tNotV (ta : TE) : TE := fun σ H Q => ta σ H fun x H1 => ∃ c, x = .bl c ∧ Q (.bl (!c)) H1
theorem pe_one {op} {t : TE} (h : PE X a t) : PE X (.BoolOp op [a] pos) t := fun pins s σ H Q I hw => BoolOp_one (h pins s σ H Q I hw)
theorem pe_and (ha : PE X a ta) (hb : PE X (.BoolOp .And (b :: rest) pos) tb) : PE X (.BoolOp .And (a :: b :: rest) pos) (tAndV ta tb) := by
  intro pins s σ H Q I h
  refine BoolOp_and (thn (ha pins s σ H _ I h) fun v s1 ⟨x, H1, I1, r1, q1⟩ => ?_)
  obtain ⟨c, rfl, q1⟩ := q1
  cases r1
  refine wpAny_truthy_bool ?_
  cases c with
  | true => exact hb pins s1 σ H1 Q I1 q1
  | false => exact ⟨.bl false, H1, I1, rfl, q1⟩
theorem pe_not (ha : PE X a ta) : PE X (.UnaryOp .Not a pos) (tNotV ta) := by
  intro pins s σ H Q I h
  refine UnaryOp_ (thn (ha pins s σ H _ I h) fun v s1 ⟨x, H1, I1, r1, q1⟩ => ?_)
  obtain ⟨c, rfl, q1⟩ := q1
  cases r1
  exact not_of (wpAny_truthy_bool ⟨.bl (!c), H1, I1, rfl, q1⟩)
end
end L2

namespace L2
open PySem PySem.Spec PyProof.Rows

/-! ### a list, a tuple that is read: tracked, frozen, or an object of the module -/
def SqL (K : PySem.W.Frag) (H : Hp) (a : Addr) (xs : List V) : Prop :=
  Rd H a (.lst xs) ∨
    ∃ (o : Obj) (its : Array Value) (n : Nat), K.lookup a = some o ∧ o.cls = .type "list" ∧ o.dict = none ∧ o.data = .seq its n ∧ its.size ≤ sizeLine ∧ Vals xs its.toList
def SqT (K : PySem.W.Frag) (H : Hp) (a : Addr) (xs : List V) : Prop :=
  Rd H a (.tup xs) ∨
    ∃ (o : Obj) (its : Array Value) (n : Nat), K.lookup a = some o ∧ o.cls = .type "tuple" ∧ o.data = .seq its n ∧ its.size ≤ sizeLine ∧ Vals xs its.toList
def absV : Value → Option V
  | .none => some .non
  | .bool b => some (.bl b)
  | .int i _ => some (.int i)
  | .str x _ => some (.str x)
  | .bytes b _ => some (.byt b)
  | .float b _ => some (.flt b)
  | .ref a => some (.ref a)
  | .type n => some (.ty n)
  | _ => none
theorem RelV.abs {x : V} {u : Value} (r : RelV x u) : absV u = some x := by
  cases x with
  | non => cases r; rfl
  | bl _ => cases r; rfl
  | int _ => obtain ⟨t, rfl⟩ := r; rfl
  | str _ => obtain ⟨t, rfl⟩ := r; rfl
  | byt _ => obtain ⟨t, rfl⟩ := r; rfl
  | flt _ => obtain ⟨t, rfl⟩ := r; rfl
  | ref _ => cases r; rfl
  | ty _ => cases r; rfl
theorem RelV.inj {x y : V} {u : Value} (r : RelV x u) (q : RelV y u) : x = y := Option.some.inj (r.abs.symm.trans q.abs)
theorem Vals.inj {xs ys : List V} {us : List Value} (h : Vals xs us) (h' : Vals ys us) : xs = ys := by
  induction h generalizing ys with
  | nil => cases h'; rfl
  | cons r t ih => cases h' with
    | cons r' t' => rw [r.inj r', ih t']
section
variable {X : Cx} {pins : List (Addr × Obj)} {σ : St} {H : Hp} {s : Shared} {a : Addr} {xs ys : List V}
theorem SqL.of {K : PySem.W.Frag} (h : H a = some (.lst xs)) : SqL K H a xs := .inl (.inl h)
theorem SqT.of {K : PySem.W.Frag} (h : H a = some (.tup xs)) : SqT K H a xs := .inl (.inl h)
theorem Inv.list (I : Inv X pins σ H s) (h : SqL X.K H a xs) : ∃ its : List Value, Vals xs its ∧ PlainL s.heap a its.toArray ∧ xs.length ≤ sizeLine := by
  rcases h with h | ⟨o, its, n, hk, hc, hd, hs, hz, r⟩
  · obtain ⟨z, its, n, r, e⟩ := h.ok I.hok
    exact ⟨its, r, ⟨_, n, e, rfl, rfl, rfl⟩, z⟩
  · refine ⟨its.toList, r, ⟨o, n, I.kIn a o hk, hc, hd, by simpa using hs⟩, ?_⟩
    have e := r.length
    simp only [Array.length_toList] at e
    omega
theorem Inv.tuple (I : Inv X pins σ H s) (h : SqT X.K H a xs) : ∃ its : List Value, Vals xs its ∧ IsTup s.heap a its.toArray ∧ xs.length ≤ sizeLine := by
  rcases h with h | ⟨o, its, n, hk, hc, hs, hz, r⟩
  · obtain ⟨z, its, r, p⟩ := h.ok I.hok
    exact ⟨its, r, p, z⟩
  · refine ⟨its.toList, r, ⟨o, I.kIn a o hk, hc, n, by simpa using hs⟩, ?_⟩
    have e := r.length
    simp only [Array.length_toList] at e
    omega
theorem Inv.list_inj (I : Inv X pins σ H s) (h : SqL X.K H a xs) (h' : SqL X.K H a ys) : xs = ys := by
  obtain ⟨its, r, ⟨o, n, e, _, _, d⟩, _⟩ := I.list h
  obtain ⟨its', r', ⟨o', n', e', _, _, d'⟩, _⟩ := I.list h'
  rw [e] at e'; cases e'
  rw [d] at d'
  injection d' with d1 _
  have : its = its' := by simpa using congrArg Array.toList d1
  subst this
  exact r.inj r'
theorem Inv.tuple_inj (I : Inv X pins σ H s) (h : SqT X.K H a xs) (h' : SqT X.K H a ys) : xs = ys := by
  obtain ⟨its, r, ⟨o, e, _, n, d⟩, _⟩ := I.tuple h
  obtain ⟨its', r', ⟨o', e', _, n', d'⟩, _⟩ := I.tuple h'
  rw [e] at e'; cases e'
  rw [d] at d'
  injection d' with d1 _
  have : its = its' := by simpa using congrArg Array.toList d1
  subst this
  exact r.inj r'
end

/-! ### another wish about exceptions -/
abbrev Cx.wish (X : Cx) (E : Value → Shared → Prop) : Cx := { X with xe := E }
/-- no exception leaves -/
abbrev Cx.nox (X : Cx) : Cx := X.wish fun _ _ => False
theorem Cx.Ok.wish {X : Cx} (ok : X.Ok) (E : Value → Shared → Prop) : (X.wish E).Ok :=
  ⟨ok.mod, ok.kind, ok.glob, ok.blt, ok.above, ok.inj, ok.has, ok.cab, ok.hd, ok.frames, ok.stk, ok.exf, ok.bs, ok.bsz, ok.noex, ok.exfs, ok.funs, ok.frf⟩
theorem Cx.Ok.unwish {X : Cx} {E : Value → Shared → Prop} (ok : (X.wish E).Ok) : X.Ok :=
  ⟨ok.mod, ok.kind, ok.glob, ok.blt, ok.above, ok.inj, ok.has, ok.cab, ok.hd, ok.frames, ok.stk, ok.exf, ok.bs, ok.bsz, ok.noex, ok.exfs, ok.funs, ok.frf⟩
section
variable {X : Cx} {pins : List (Addr × Obj)} {σ : St} {H : Hp} {s : Shared} {E : Value → Shared → Prop}
theorem Inv.wish (I : Inv X pins σ H s) (E : Value → Shared → Prop) : Inv (X.wish E) pins σ H s := ⟨I.ok.wish E, I.os, I.bare, I.base, I.loc, I.cell, I.free, I.freeC, I.pin, I.hok, I.len⟩
theorem Inv.unwish (I : Inv (X.wish E) pins σ H s) : Inv X pins σ H s := ⟨I.ok.unwish, I.os, I.bare, I.base, I.loc, I.cell, I.free, I.freeC, I.pin, I.hok, I.len⟩
theorem SP.unwish {D : Ends} {f : Flow} {s' : Shared} (h : SP (X.wish E) pins D f s') : SP X pins D f s' := by
  cases f with
  | next => obtain ⟨σ', H', I, q⟩ := h; exact ⟨σ', H', I.unwish, q⟩
  | brk => obtain ⟨σ', H', I, q⟩ := h; exact ⟨σ', H', I.unwish, q⟩
  | cont => obtain ⟨σ', H', I, q⟩ := h; exact ⟨σ', H', I.unwish, q⟩
  | ret u => obtain ⟨v, σ', H', I, r, q⟩ := h; exact ⟨v, σ', H', I.unwish, r, q⟩
theorem PSs.nox {st : List Stmt} {t : TS} (h : PSs X.nox st t) : PSs X st t := fun pins s σ H D I hw =>
  wpAny_mono (h pins s σ H D (I.wish _) hw) (fun _ _ q => q.unwish) fun _ _ z => False.elim z
end

/-! ### blocks and small statements -/
section
variable {X : Cx} {st : Stmt} {rest : List Stmt} {t u : TS} {e : Expr} {te : TE} {pos : Pos}
def tNext : TS := fun D σ H => D.nx σ H
def tSeq (t u : TS) : TS := fun D σ H => t { D with nx := u D } σ H
theorem pss_nil : PSs X [] tNext := fun _ _ σ H _ I h => wpAny_execs_nil ⟨σ, H, I, h⟩
theorem pss_cons (h1 : PS X st t) (h2 : PSs X rest u) : PSs X (st :: rest) (tSeq t u) := by
  intro pins s σ H D I h
  refine wpAny_execs_cons (thn (h1 pins s σ H { D with nx := u D } I h) fun f s1 q => ?_)
  cases f with
  | next =>
    obtain ⟨σ', H', I', q⟩ := q
    exact h2 pins s1 σ' H' D I' q
  | ret v => exact q
  | brk => exact q
  | cont => exact q
theorem pss_one (h1 : PS X st t) : PSs X [st] t := by
  intro pins s σ H D I h
  refine wpAny_execs_cons (thn (h1 pins s σ H D I h) fun f s1 q => ?_)
  cases f with
  | next => exact wpAny_execs_nil q
  | ret v => exact q
  | brk => exact q
  | cont => exact q
/-- in a def's body nothing is shown -/
theorem Inv.quiet {pins : List (Addr × Obj)} {σ : St} {H : Hp} {s : Shared} (I : Inv X pins σ H s) : interactive X.env = false := by simp [interactive, I.ok.kind]
/-- an expression whose value is dropped -/
def tDrop (te : TE) : TS := fun D σ H => te σ H fun _ H1 => D.nx σ H1
theorem ps_expr (he : PE X e te) (hs : swapsWith e none pos.line X.env = pure false := by rfl) : PS X (.Expr e pos) (tDrop te) := by
  intro pins s σ H D I h
  exact wpAny_Expr_any (thn (he pins s σ H _ I h) fun v s1 ⟨x, H1, I1, r1, q1⟩ => ⟨σ, H1, I1, q1⟩) I.quiet hs
def tRet (te : TE) : TS := fun D σ H => te σ H D.rt
theorem ps_ret (he : PE X e te) : PS X (.Return (some e) pos) (tRet te) := by
  intro pins s σ H D I h
  exact wpAny_Return_some (thn (he pins s σ H _ I h) fun v s1 ⟨x, H1, I1, r1, q1⟩ => ⟨x, σ, H1, I1, r1, q1⟩)
def tIfS (c : TT) (t u : TS) : TS := fun D σ H => c σ H fun b H1 => if b = true then t D σ H1 else u D σ H1
theorem ps_if {c : Expr} {a b : List Stmt} {tc : TT} (hc : PT X c tc) (ha : PSs X a t) (hb : PSs X b u) : PS X (.If c a b pos) (tIfS tc t u) := by
  intro pins s σ H D I h
  refine wpAny_If (thn (hc pins s σ H _ I h) fun d s1 ⟨H1, I1, q1⟩ => ?_)
  cases d with
  | true => exact ha pins s1 σ H1 D I1 q1
  | false => exact hb pins s1 σ H1 D I1 q1
end

/-! ### targets -/
abbrev TG := V → St → Hp → (St → Hp → Prop) → Prop
abbrev TGs := List V → St → Hp → (St → Hp → Prop) → Prop
def PG (X : Cx) (target : Expr) (t : TG) : Prop :=
  ∀ (pins : List (Addr × Obj)) (s : Shared) (σ : St) (H : Hp) (v : V) (u : Value) (Q : St → Hp → Prop), Inv X pins σ H s → RelV v u → t v σ H Q →
    wpAny (model X.prog X.w) X.A (assign target X.env u) (fun _ s' => ∃ σ' H', Inv X pins σ' H' s' ∧ Q σ' H') X.xe s
/-- several targets, one after another -/
def PGs (X : Cx) (ts : List Expr) (t : TGs) : Prop :=
  ∀ (pins : List (Addr × Obj)) (s : Shared) (σ : St) (H : Hp) (vs : List V) (us : List Value) (Q : St → Hp → Prop), Inv X pins σ H s → Vals vs us → t vs σ H Q →
    wpAny (model X.prog X.w) X.A (assignInOrder ((assignEach ts X.env).map (·.2)) us) (fun _ s' => ∃ σ' H', Inv X pins σ' H' s' ∧ Q σ' H') X.xe s
/-- o[i] = v, by values -/
abbrev TSet := V → V → V → Hp → (Hp → Prop) → Prop
def PSet (X : Cx) (t : TSet) : Prop :=
  ∀ (pins : List (Addr × Obj)) (s : Shared) (σ : St) (H : Hp) (o i v : V) (ov iv u : Value) (Q : Hp → Prop), Inv X pins σ H s → RelV o ov → RelV i iv → RelV v u → t o i v H Q →
    wpAny (model X.prog X.w) X.A (setItem ov iv u) (fun _ s' => ∃ H', Inv X pins σ H' s' ∧ Q H') X.xe s
section
variable {X : Cx} {pos : Pos}
def gName (i : Nat) : TG := fun v σ H Q => Q (σ.set i (some v)) H
theorem pg_name {i : Nat} {x : Str} (hN : X.N.Nodup) (hi : X.N[i]? = some x) (hx : Loc X.env.scope x) (hf : X.fn x = true ∨ X.env.scope.names.lookup x = some .local := by first | exact .inl rfl | exact .inr rfl | assumption) : PG X (.Name x pos) (gName i) := by
  intro pins s σ H v u Q I r h
  exact wpAny_assign_Name (store_ok I hN hi hx r (fun s' I' => ⟨_, H, I', h⟩) hf)
def gNil : TGs := fun vs σ H Q => vs = [] ∧ Q σ H
def gCons (t : TG) (u : TGs) : TGs := fun vs σ H Q => ∃ v r, vs = v :: r ∧ t v σ H fun σ' H' => u r σ' H' Q
theorem pgs_nil : PGs X [] gNil := by
  intro pins s σ H vs us Q I r h
  obtain ⟨e, h⟩ := h
  subst e
  cases r
  exact assignInOrder_nil ⟨σ, H, I, h⟩
theorem pgs_cons {e : Expr} {es : List Expr} {t : TG} {u : TGs} (h1 : PG X e t) (h2 : PGs X es u)
    (hs : (assignEach (e :: es) X.env).map (·.2) = assign e X.env :: (assignEach es X.env).map (·.2) := by rfl) : PGs X (e :: es) (gCons t u) := by
  intro pins s σ H vs us Q I r h
  obtain ⟨v, vr, e1, h⟩ := h
  subst e1
  cases r with
  | cons r rr =>
    rw [hs]
    refine assignInOrder_cons (thn (h1 pins s σ H _ _ _ I r h) fun _ s1 ⟨σ1, H1, I1, q1⟩ => ?_)
    exact h2 pins s1 σ1 H1 _ _ Q I1 rr q1
/-- (a, b, ..) = a tuple of that length -/
def gTup (K : PySem.W.Frag) (n : Nat) (t : TGs) : TG := fun v σ H Q => ∃ a xs, v = .ref a ∧ SqT K H a xs ∧ xs.length = n ∧ t xs σ H Q
theorem pg_tup {es : List Expr} {k : Nat} {t : TGs} {n : Nat} (hc : X.calm = true) (h : PGs X es t)
    (hn : (assignEach es X.env).length = n := by rfl) (hst : (assignEach es X.env).findIdx? (·.1) = none := by rfl) : PG X (.Tuple es k pos) (gTup X.K n t) := by
  intro pins s σ H v u Q I r hw
  obtain ⟨a, xs, e1, hq, hl, hw⟩ := hw
  subst e1
  cases r
  obtain ⟨its, rv, ht, hz⟩ := I.tuple hq
  refine assign_Tuple_tuple (I.ok.hd hc) ht (by simp [hn, ← hl, rv.length]) hst fun h' hx => ?_
  have I1 : Inv X pins σ H { s with heap := h' } := I.kept (t' := s.toks) fun b o e => hx b o (Nat.ne_of_lt (Heap.lt_size e)) e
  exact h pins _ σ H xs _ Q I1 (by simpa using rv) hw
/-- o[i] = .. -/
def gSub (to ti : TE) (t : TSet) : TG := fun v σ H Q => to σ H fun o H1 => ti σ H1 fun i H2 => t o i v H2 fun H3 => Q σ H3
theorem pg_sub {o i : Expr} {to ti : TE} {t : TSet} (ho : PE X o to) (hi : PE X i ti) (hs : PSet X t)
    (ha : ∀ v, assign (.Subscript o i pos) X.env v = (do
      let ov ← holding [v] (eval o X.env)
      let iv ← holding [v, ov] (eval i X.env)
      standAt pos
      holding [v, ov, iv] (setItem ov iv v)
      release [v, ov, iv] []) := by intro _; rfl) : PG X (.Subscript o i pos) (gSub to ti t) := by
  intro pins s σ H v u Q I r h
  rw [ha]
  refine wpAny_bind (wpAny_holding (thn (ho pins s σ H _ I h) fun ov s1 ⟨x, H1, I1, r1, q1⟩ => ?_))
  refine wpAny_bind (wpAny_holding (thn (hi pins s1 σ H1 _ I1 q1) fun iv s2 ⟨y, H2, I2, r2, q2⟩ => ?_))
  refine wpAny_bind (wpAny_standAt (wpAny_bind (wpAny_holding (thn (hs pins s2 σ H2 x y v ov iv u _ I2 r1 r2 r q2) fun _ s3 ⟨H3, I3, q3⟩ => ?_))))
  exact wpAny_release ⟨σ, H3, I3, q3⟩
/-- target = value -/
def tAsg (te : TE) (g : TG) : TS := fun D σ H => te σ H fun x H1 => g x σ H1 D.nx
theorem ps_asg {tg e : Expr} {te : TE} {g : TG} (he : PE X e te) (hg : PG X tg g) (hs : swapsWithSole [tg] e pos.line X.env = pure false := by rfl) (hw : swappedStores [tg] e X.env = pure none := by rfl)
    (h1 : (assignEach [tg] X.env).map (·.2) = [assign tg X.env] := by rfl) : PS X (.Assign [tg] e pos) (tAsg te g) := by
  intro pins s σ H D I h
  refine wpAny_Assign_stores (thn (he pins s σ H _ I h) fun v s1 ⟨x, H1, I1, r1, q1⟩ => ?_) hs hw
  rw [h1]
  exact thn (hg pins s1 σ H1 x v _ I1 r1 q1) fun _ s2 q => q
/-- name = value -/
theorem ps_set {i : Nat} {x : Str} {e : Expr} {te : TE} {pos' : Pos} (hN : X.N.Nodup) (hi : X.N[i]? = some x) (hx : Loc X.env.scope x) (he : PE X e te) (hs : swapsWith e (some (.Name x pos')) pos.line X.env = pure false := by rfl) (hf : X.fn x = true ∨ X.env.scope.names.lookup x = some .local := by first | exact .inl rfl | exact .inr rfl | assumption) :
    PS X (.Assign [.Name x pos'] e pos) (tAsg te (gName i)) := by
  intro pins s σ H D I h
  refine wpAny_Assign_Name (thn (he pins s σ H _ I h) fun v s1 ⟨y, H1, I1, r1, q1⟩ => ?_) hs
  exact store_ok I1 hN hi hx r1 (fun s2 I2 => ⟨_, H1, I2, q1⟩) hf
end

/-! ### while -/
section
variable {X : Cx} {pos : Pos}
end

/-! ### what a loop or a comprehension walks -/
/-- at turn i: it yields x (the heap may grow), or it stops -/
structure It where
  go : Nat → Hp → Prop
  yld : Nat → Hp → V → Hp → Prop
  stop : Nat → Hp → Prop
/-- the iterator's own objects may turn: they are not the frame's, not pinned, younger than the entry (or a comprehension's own) -/
def FpOk (X : Cx) (pins : List (Addr × Obj)) (H : Hp) (b : Addr) : Prop :=
  H b = none ∧ b ≠ X.env.locals ∧ b ∉ X.fs ∧ (b ∈ X.ex ∨ X.s₀.heap.objs.size ≤ b) ∧ (∀ x c, X.env.cells.lookup x = some c → c ≠ b) ∧ ∀ p ∈ X.pn ++ pins, p.1 ≠ b
theorem Inv.fpOk {X : Cx} {pins : List (Addr × Obj)} {σ : St} {H H' : Hp} {s : Shared} {b : Addr} (I : Inv X pins σ H s) (hb : s.heap.objs.size ≤ b) (hn : H' b = none) : FpOk X pins H' b := by
  refine ⟨hn, Nat.ne_of_gt (Nat.lt_of_lt_of_le I.lt hb), I.nofs hb, .inr (Nat.le_trans I.sz hb), fun x c e z => ?_, fun p hp z => ?_⟩
  · obtain ⟨v, q⟩ := I.cell x c e
    exact absurd (Nat.lt_of_lt_of_le q.lt (by rw [z]; exact hb)) (Nat.lt_irrefl _)
  · exact absurd (Nat.lt_of_lt_of_le (Heap.lt_size (I.pin p hp).1) (by rw [z]; exact hb)) (Nat.lt_irrefl _)
structure Turn (P : Program) (w : World) (K : PySem.W.Frag) (tg : Expr) (J : It) (fp : List Addr) (it : Addr) (tn : Nat → Heap → Prop) : Prop where
  mem : it ∈ fp
  obj : ∀ i h, tn i h → ∀ b ∈ fp, ∃ o, h.get? b = some o ∧ ∀ v, o.data ≠ .cell v
  keep : ∀ i h h', tn i h → (∀ b ∈ fp, ∀ o, h.get? b = some o → h'.get? b = some o) → tn i h'
  item : ∀ (X : Cx), X.prog = P → X.w = w → X.K = K → X.calm = true → ∀ (i : Nat) (pins : List (Addr × Obj)) (s : Shared) (σ : St) (H : Hp) (E : Value → Shared → Prop), Inv X pins σ H s → (∀ b ∈ fp, FpOk X pins H b) → tn i s.heap → J.go i H →
    wpAny (model P w) X.A (pyNext (.ref it)) (fun r s1 => ∃ u, r = some u ∧
      wpAny (model P w) X.A (letOwnedTupleGo tg (.ref it) u) (fun _ s2 => ∃ x H', Inv X pins σ H' s2 ∧ RelV x u ∧ J.yld i H x H' ∧ tn (i + 1) s2.heap ∧ ∀ b ∈ fp, H' b = none) E s1) E s
  done : ∀ (X : Cx), X.prog = P → X.w = w → X.K = K → X.calm = true → ∀ (i : Nat) (pins : List (Addr × Obj)) (s : Shared) (σ : St) (H : Hp) (E : Value → Shared → Prop), Inv X pins σ H s → (∀ b ∈ fp, FpOk X pins H b) → tn i s.heap → J.stop i H →
    wpAny (model P w) X.A (pyNext (.ref it)) (fun r s1 => r = none ∧ Inv X pins σ H s1) E s
  self : ∀ (A : Around) (i : Nat) (s : Shared) (Q : Value → Shared → Prop) (E : Value → Shared → Prop), tn i s.heap → Q (.ref it) s → wpAny (model P w) A (pyIter (.ref it)) Q E s
abbrev TI := St → Hp → (It → Hp → Prop) → Prop
/-- an iterator has come -/
def PIE (X : Cx) (pins : List (Addr × Obj)) (σ : St) (tg : Expr) (R : It → Hp → Prop) (itv : Value) (s2 : Shared) : Prop :=
  ∃ (it : Addr) (fp : List Addr) (tn : Nat → Heap → Prop) (J : It) (H' : Hp), itv = .ref it ∧ Inv X pins σ H' s2 ∧ Turn X.prog X.w X.K tg J fp it tn ∧ tn 0 s2.heap ∧ (∀ b ∈ fp, FpOk X pins H' b) ∧ R J H'
def PI (X : Cx) (tg iter : Expr) (wi : TI) : Prop :=
  ∀ (pins : List (Addr × Obj)) (s : Shared) (σ : St) (H : Hp) (R : It → Hp → Prop), Inv X pins σ H s → wi σ H R →
    wpAny (model X.prog X.w) X.A (eval iter X.env) (fun v s1 => wpAny (model X.prog X.w) X.A (pyIter v) (PIE X pins σ tg R) X.xe s1) X.xe s

/-- the step ahead of the store is nothing for an iterator that keeps no tuple -/
theorem go_of {M : Model} {A : Around} {E : Value → Shared → Prop} {s : Shared} {tg : Expr} {it : Addr} {u : Value} {o : Obj} {n : String} {vs : Array Value} {Q : Unit → Shared → Prop} (ho : s.heap.get? it = some o) (hc : o.cls = .type n) (hd : o.data = .fields vs)
    (hn : ["enumerate", "zip", "dict_itemiterator", "dict_reverseitemiterator", "odict_iterator", "itertools.zip_longest", "itertools.pairwise"].contains n = false) (hQ : Q () s) : wpAny M A (letOwnedTupleGo tg (.ref it) u) Q E s := by
  unfold letOwnedTupleGo
  cases tg <;> first
    | exact wpAny_pure hQ
    | (cases u <;> first
        | exact wpAny_pure hQ
        | (refine wpAny_bind (wpAny_load ho ?_)
           rw [hc, hd]
           show wpAny M A (if (["enumerate", "zip", "dict_itemiterator", "dict_reverseitemiterator", "odict_iterator", "itertools.zip_longest", "itertools.pairwise"].contains n && vs[0]? == some (rawInt _)) = true then _ else _) Q E s
           rw [if_neg (by intro h; rw [hn, Bool.false_and] at h; cases h)]
           exact wpAny_pure hQ))

/-- the list at a, as it stands at each turn (a loop may append to it) -/
def Itl (K : PySem.W.Frag) (a : Addr) : It :=
  ⟨fun i H => ∃ xs x, SqL K H a xs ∧ xs[i]? = some x, fun i H x H' => H' = H ∧ ∀ xs, SqL K H a xs → xs[i]? = some x, fun i H => ∃ xs, SqL K H a xs ∧ xs.length ≤ i⟩
def Itt (K : PySem.W.Frag) (a : Addr) : It :=
  ⟨fun i H => ∃ xs x, SqT K H a xs ∧ xs[i]? = some x, fun i H x H' => H' = H ∧ ∀ xs, SqT K H a xs → xs[i]? = some x, fun i H => ∃ xs, SqT K H a xs ∧ xs.length ≤ i⟩
/-- lo, lo + 1, .. (n of them) -/
def Itr (lo : Int) (n : Nat) : It := ⟨fun i _ => i < n, fun i H x H' => H' = H ∧ x = .int (lo + i), fun i _ => n ≤ i⟩
theorem turn_list {P : Program} {w : World} {K : PySem.W.Frag} {tg : Expr} (a it : Addr) : Turn P w K tg (Itl K a) [it] it (fun i h => h.IsListIter it a i) where
  mem := by simp
  obj := fun i h st b hb => by
    have e : b = it := by simpa using hb
    subst e
    obtain ⟨o, e, c, d⟩ := st
    exact ⟨o, e, fun v z => by rw [d] at z; cases z⟩
  keep := fun i h h' st k => st.at fun o e => k it (by simp) o e
  item := by
    intro X hP hw hK hc i pins s σ H E I hf st hg
    subst hP hw hK
    obtain ⟨xs, x, hq, hx⟩ := hg
    obtain ⟨its, rv, p, hz⟩ := I.list hq
    obtain ⟨u, hu, ru⟩ := rv.get hx
    obtain ⟨f0, f1, f2, f3, f4, f5⟩ := hf it (by simp)
    refine wpAny_pyNext_list_item st p.isList (x := u) (by simpa using hu) fun h' st' sb => ?_
    have I1 : Inv X pins σ H { s with heap := h' } := I.turned (t' := s.toks) (fun b o hb e => (sb.2 b hb).trans e) f0 f1 f3 f4 f5
    obtain ⟨o, e, c, d⟩ := id st'
    exact ⟨u, rfl, go_of (s := { s with heap := h' }) e c d (by decide) ⟨x, H, I1, ru, ⟨rfl, fun ys hy => by rw [I.list_inj hy hq]; exact hx⟩, st', fun b hb => (hf b hb).1⟩⟩
  done := by
    intro X hP hw hK hc i pins s σ H E I hf st hg
    subst hP hw hK
    obtain ⟨xs, hq, hx⟩ := hg
    obtain ⟨its, rv, p, hz⟩ := I.list hq
    obtain ⟨f0, f1, f2, f3, f4, f5⟩ := hf it (by simp)
    have hl := rv.length
    exact wpAny_pyNext_list_end (I.ok.hd hc) st p.isList (by simp; omega) fun h' eb => ⟨rfl, I.turned (t' := s.toks) (fun b o hb e => eb b o hb e) f0 f1 f3 f4 f5⟩
  self := fun _ _ _ _ _ st h => wpAny_pyIter_listiter st h
theorem turn_tuple {P : Program} {w : World} {K : PySem.W.Frag} {tg : Expr} (a it : Addr) : Turn P w K tg (Itt K a) [it] it (fun i h => h.IsTupleIter it a i) where
  mem := by simp
  obj := fun i h st b hb => by
    have e : b = it := by simpa using hb
    subst e
    obtain ⟨o, e, c, d⟩ := st
    exact ⟨o, e, fun v z => by rw [d] at z; cases z⟩
  keep := fun i h h' st k => st.at fun o e => k it (by simp) o e
  item := by
    intro X hP hw hK hc i pins s σ H E I hf st hg
    subst hP hw hK
    obtain ⟨xs, x, hq, hx⟩ := hg
    obtain ⟨its, rv, p, hz⟩ := I.tuple hq
    obtain ⟨u, hu, ru⟩ := rv.get hx
    obtain ⟨f0, f1, f2, f3, f4, f5⟩ := hf it (by simp)
    refine wpAny_pyNext_tuple_item st (show s.heap.IsTuple a its.toArray from p) (x := u) (by simpa using hu) fun h' st' sb => ?_
    have I1 : Inv X pins σ H { s with heap := h' } := I.turned (t' := s.toks) (fun b o hb e => (sb.2 b hb).trans e) f0 f1 f3 f4 f5
    obtain ⟨o, e, c, d⟩ := id st'
    exact ⟨u, rfl, go_of (s := { s with heap := h' }) e c d (by decide) ⟨x, H, I1, ru, ⟨rfl, fun ys hy => by rw [I.tuple_inj hy hq]; exact hx⟩, st', fun b hb => (hf b hb).1⟩⟩
  done := by
    intro X hP hw hK hc i pins s σ H E I hf st hg
    subst hP hw hK
    obtain ⟨xs, hq, hx⟩ := hg
    obtain ⟨its, rv, p, hz⟩ := I.tuple hq
    obtain ⟨f0, f1, f2, f3, f4, f5⟩ := hf it (by simp)
    have hl := rv.length
    exact wpAny_pyNext_tuple_end (I.ok.hd hc) st (show s.heap.IsTuple a its.toArray from p) (by simp; omega) fun h' eb => ⟨rfl, I.turned (t' := s.toks) (fun b o hb e => eb b o hb e) f0 f1 f3 f4 f5⟩
  self := fun _ _ _ _ _ st h => wpAny_pyIter_tupleiter st h
theorem turn_range {P : Program} {w : World} {K : PySem.W.Frag} {tg : Expr} (it : Addr) (lo : Int) (n : Nat) : Turn P w K tg (Itr lo n) [it] it (fun i h => IsRangeIter h it (lo + (i : Nat) * 1) ((n : Int) - (i : Nat)) 1) where
  mem := by simp
  obj := fun i h st b hb => by
    have e : b = it := by simpa using hb
    subst e
    exact ⟨_, st, fun v z => by
      have z' : Data.fields _ = Data.cell v := z
      cases z'⟩
  keep := fun i h h' st k => k it (by simp) _ st
  item := by
    intro X hP hw hK hc i pins s σ H E I hf st hg
    subst hP hw hK
    obtain ⟨f0, f1, f2, f3, f4, f5⟩ := hf it (by simp)
    have W := Walks.range (prog := X.prog) (w := X.w) (I.ok.hd hc) it lo 1 n
    refine W.item i s _ _ hg st fun v h' tk hv st' kk => ?_
    obtain ⟨t, rfl⟩ := hv
    have I1 : Inv X pins σ H { s with heap := h', toks := tk } := I.turned (fun b o hb e => kk b o (by simpa using hb) e) f0 f1 f3 f4 f5
    refine ⟨_, rfl, go_of (s := { s with heap := h', toks := tk }) (n := "range_iterator") st' rfl rfl (by decide) ⟨.int (lo + i), H, I1, ⟨t, ?_⟩, ⟨rfl, rfl⟩, st', fun b hb => (hf b hb).1⟩⟩
    rw [Int.mul_one]
  done := by
    intro X hP hw hK hc i pins s σ H E I hf st hg
    subst hP hw hK
    obtain ⟨f0, f1, f2, f3, f4, f5⟩ := hf it (by simp)
    exact wpAny_pyNext_range_end (I.ok.hd hc) st (by have : n ≤ i := hg; omega) fun h' eb => ⟨rfl, I.turned (t' := s.toks) (fun b o hb e => eb b o hb e) f0 f1 f3 f4 f5⟩
  self := fun _ _ _ _ _ st h => wpAny_pyIter_rangeiter st h
end L2

namespace L2
open PySem PySem.Spec PyProof.Rows
section
variable {X : Cx} {tg : Expr}
def iList (K : PySem.W.Frag) (tl : TE) : TI := fun σ H R => tl σ H fun x H1 => ∃ a, x = .ref a ∧ (∃ xs, SqL K H1 a xs) ∧ R (Itl K a) H1
def iTup (K : PySem.W.Frag) (tl : TE) : TI := fun σ H R => tl σ H fun x H1 => ∃ a, x = .ref a ∧ (∃ xs, SqT K H1 a xs) ∧ R (Itt K a) H1
theorem pi_list {l : Expr} {tl : TE} (hl : PE X l tl) : PI X tg l (iList X.K tl) := by
  intro pins s σ H R I h
  refine thn (hl pins s σ H _ I h) fun v s1 ⟨x, H1, I1, r1, q1⟩ => ?_
  obtain ⟨a, e, ⟨xs, hq⟩, q⟩ := q1
  subst e
  cases r1
  obtain ⟨its, rv, p, hz⟩ := I1.list hq
  refine wpAny_pyIter_list p.isList ?_
  refine ⟨s1.heap.objs.size, [s1.heap.objs.size], _, _, H1, rfl, I1.kept (t' := s1.toks) fun b o e => Heap.get?_push_of_some _ e, turn_list a _, ⟨_, Heap.get?_push_size _ rfl, rfl, rfl⟩, fun b hb => ?_, q⟩
  have e : b = s1.heap.objs.size := by simpa using hb
  subst e
  exact I1.fpOk (Nat.le_refl _) (I1.hok.fresh (Nat.le_refl _))
theorem pi_tup {l : Expr} {tl : TE} (hl : PE X l tl) : PI X tg l (iTup X.K tl) := by
  intro pins s σ H R I h
  refine thn (hl pins s σ H _ I h) fun v s1 ⟨x, H1, I1, r1, q1⟩ => ?_
  obtain ⟨a, e, ⟨xs, hq⟩, q⟩ := q1
  subst e
  cases r1
  obtain ⟨its, rv, p, hz⟩ := I1.tuple hq
  refine wpAny_pyIter_tuple (show s1.heap.IsTuple a its.toArray from p) ?_
  refine ⟨s1.heap.objs.size, [s1.heap.objs.size], _, _, H1, rfl, I1.kept (t' := s1.toks) fun b o e => Heap.get?_push_of_some _ e, turn_tuple a _, ⟨_, Heap.get?_push_size _ rfl, rfl, rfl⟩, fun b hb => ?_, q⟩
  have e : b = s1.heap.objs.size := by simpa using hb
  subst e
  exact I1.fpOk (Nat.le_refl _) (I1.hok.fresh (Nat.le_refl _))
/-- a range object just made, walked -/
theorem range_it {pins : List (Addr × Obj)} {σ : St} {H : Hp} {s : Shared} {R : It → Hp → Prop} {E : Value → Shared → Prop} {lo hi : Int} {t u v : Tok} {tk : Nat} (I : Inv X pins σ H s) (h1 : -(2 ^ 62) ≤ lo) (h2 : lo < 2 ^ 62) (h3 : -(2 ^ 62) ≤ hi) (h4 : hi < 2 ^ 62)
    (q : R (Itr lo (hi - lo).toNat) H) : wpAny (model X.prog X.w) X.A (pyIter (.ref s.heap.objs.size)) (PIE X pins σ tg R) E { s with heap := s.heap.push { cls := .type "range", data := .fields #[.int lo t, .int hi u, .int 1 v] }, toks := tk } := by
  refine wpAny_pyIter_range (IsRange.new ..) (small_one h1 h2 h3 h4) ?_
  have I1 : Inv X pins σ H { s with heap := s.heap.push { cls := .type "range", data := .fields #[.int lo t, .int hi u, .int 1 v] }, toks := tk } := I.kept fun b o e => Heap.get?_push_of_some _ e
  refine ⟨(s.heap.push { cls := .type "range", data := .fields #[.int lo t, .int hi u, .int 1 v] }).objs.size, [(s.heap.push { cls := .type "range", data := .fields #[.int lo t, .int hi u, .int 1 v] }).objs.size], _, _, H, rfl,
    I1.kept (t' := tk) fun b o e => Heap.get?_push_of_some _ e, turn_range _ lo (hi - lo).toNat, ?_, fun b hb => ?_, q⟩
  · have e1 : lo + ((0 : Nat) : Int) * 1 = lo := by simp
    have e2 : (((hi - lo).toNat : Nat) : Int) - ((0 : Nat) : Int) = Builtin.Range.rangeSize lo hi 1 := by rw [rangeSize_one]; split <;> omega
    show IsRangeIter _ _ (lo + ((0 : Nat) : Int) * 1) ((((hi - lo).toNat : Nat) : Int) - ((0 : Nat) : Int)) 1
    rw [e1, e2]
    exact Heap.get?_push_size _ rfl
  · have e : b = (s.heap.push { cls := .type "range", data := .fields #[.int lo t, .int hi u, .int 1 v] }).objs.size := by simpa using hb
    subst e
    exact I1.fpOk (Nat.le_refl _) (I1.hok.fresh (Nat.le_refl _))
def iRng1 (ta : TA) : TI := fun σ H R => ta σ H fun vs H1 => ∃ j : Int, vs = [.int j] ∧ -(2 ^ 62) ≤ j ∧ j < 2 ^ 62 ∧ R (Itr 0 j.toNat) H1
theorem pi_range1 {a : Expr} {ta : TA} {p pos : Pos} (hg : Gl X "range") (hm : X.mg "range" = none) (ha : PA X [a] ta) (hs : starEach [a] X.env = [(false, eval a X.env)] := by rfl) : PI X tg (.Call (.Name "range" p) [a] [] pos) (iRng1 ta) := by
  intro pins s σ H R I h
  refine Call_ (ld_blt I hg hm boot_range (PyProof.Rows.callWith_type1 (thn (ha pos pins s σ H _ I h) fun us s1 ⟨vs, H1, I1, r1, q1⟩ => ?_) hs rfl))
  obtain ⟨j, e, q1, q2, q⟩ := q1
  subst e
  cases r1 with
  | cons r rr =>
    cases rr
    obtain ⟨t, rfl⟩ := r
    exact call_range_1 (range_it I1 (by omega) (by omega) q1 q2 (by simpa using q))
/-! ### for -/
/-- W: the invariant by the turn and a measure; N: what the body is to reach -/
def tFor (wi : TI) (g : TG) (tb : TS) : TS := fun D σ H => wi σ H fun J H1 => ∃ W : Nat → Nat → St → Hp → Prop, (∃ m, W 0 m σ H1) ∧ ∀ i m σ H, W i m σ H →
  (J.stop i H ∧ D.nx σ H) ∨ (J.go i H ∧ ∃ N : St → Hp → Prop, (∀ σ' H', N σ' H' → ∃ m', m' < m ∧ W (i + 1) m' σ' H') ∧ ∀ x H', J.yld i H x H' → g x σ H' fun σ2 H2 => tb { D with nx := N, ct := N, bk := D.nx } σ2 H2)
/-- the records at fp as they stand -/
def pinsAt (fp : List Addr) (h : Heap) : List (Addr × Obj) := fp.filterMap fun b => (h.get? b).map fun o => (b, o)
theorem mem_pinsAt {fp : List Addr} {h : Heap} {b : Addr} {o : Obj} (hb : b ∈ fp) (e : h.get? b = some o) : (b, o) ∈ pinsAt fp h := List.mem_filterMap.mpr ⟨b, hb, by rw [e]; rfl⟩
theorem of_pinsAt {fp : List Addr} {h : Heap} {p : Addr × Obj} (hp : p ∈ pinsAt fp h) : p.1 ∈ fp ∧ h.get? p.1 = some p.2 := by
  obtain ⟨b, hb, e⟩ := List.mem_filterMap.mp hp
  cases q : h.get? b with
  | none => rw [q] at e; cases e
  | some o =>
    rw [q] at e
    have e' : (b, o) = p := Option.some.inj e
    subst e'
    exact ⟨hb, q⟩
theorem Inv.pinned {pins : List (Addr × Obj)} {σ : St} {H : Hp} {s : Shared} {fp : List Addr} (I : Inv X pins σ H s) (hf : ∀ b ∈ fp, FpOk X pins H b) (ho : ∀ b ∈ fp, ∃ o, s.heap.get? b = some o ∧ ∀ v, o.data ≠ .cell v) : Inv X (pins ++ pinsAt fp s.heap) σ H s :=
  I.pins_of fun p hp => (List.mem_append.mp hp).elim (fun z => I.pin p (List.mem_append_right _ z)) fun z => by
    obtain ⟨hb, e⟩ := of_pinsAt z
    obtain ⟨f0, f1, f2, _⟩ := hf p.1 hb
    obtain ⟨o, e', d⟩ := ho p.1 hb
    rw [e] at e'; cases e'
    exact ⟨e, f0, f1, f2, d⟩
theorem Inv.unpinned {pins pl : List (Addr × Obj)} {σ : St} {H : Hp} {s : Shared} (I : Inv X (pins ++ pl) σ H s) : Inv X pins σ H s := I.pins_of fun p hp => I.pin p (List.mem_append_right _ (List.mem_append_left _ hp))
theorem ps_for {iter : Expr} {body : List Stmt} {wi : TI} {g : TG} {tb : TS} {pos : Pos} (hp : PassesOwn (model X.prog X.w) X.A X.env X.xe) (hc : X.calm = true) (hi : PI X tg iter wi) (hg : PG X tg g) (hb : PSs X body tb)
    (hs : ∀ x, foldedSetIterable iter X.env x = pure x := by intro _; rfl) : PS X (.For tg iter body [] pos) (tFor wi g tb) := by
  intro pins s σ H D I h
  refine wpAny_For (thn (hi pins s σ H _ I h) fun v s1 h1 => thn h1 fun itv s2 h2 => ?_) hs
  obtain ⟨it, fp, tn, J, H2, e, I2, T, st2, f2, W, ⟨m0, w0⟩, turn⟩ := h2
  subst e
  -- what stays true of the iterator's objects through the loop
  have stat : ∀ {H' : Hp}, (∀ b ∈ fp, H' b = none) → ∀ b ∈ fp, FpOk X pins H' b := fun hn b hb => ⟨hn b hb, (f2 b hb).2⟩
  refine codeAny_forLoop_any (fun n s' => ∃ i σ' H', Inv X pins σ' H' s' ∧ tn i s'.heap ∧ (∀ b ∈ fp, H' b = none) ∧ W i n σ' H') ?_ m0 ⟨0, σ, H2, I2, st2, fun b hb => (f2 b hb).1, w0⟩
  rintro n s3 ⟨i, σ3, H3, I3, st3, fr3, w3⟩
  rcases turn i n σ3 H3 w3 with ⟨stop, qn⟩ | ⟨go, N, hN, step⟩
  · refine wpAny_passesOwn hp (thn (T.done X rfl rfl rfl hc i pins s3 σ3 H3 X.xe I3 (stat fr3) st3 stop) fun r s4 ⟨hr, I4⟩ => ?_)
    subst hr
    exact wpAny_execs_nil ⟨σ3, H3, I4, qn⟩
  · refine wpAny_passesOwn hp (thn (T.item X rfl rfl rfl hc i pins s3 σ3 H3 X.xe I3 (stat fr3) st3 go) fun r s4 ⟨u, hr, h4⟩ => ?_)
    subst hr
    refine wpAny_passesOwn hp (thn h4 fun _ s5 ⟨x, H5, I5, r5, y5, st5, fr5⟩ => ?_)
    have I5' := I5.pinned (stat fr5) (T.obj _ _ st5)
    refine wpAny_passesOwn hp (thn (hg _ s5 σ3 H5 x u _ I5' r5 (step x H5 y5)) fun _ s6 ⟨σ6, H6, I6, q6⟩ => ?_)
    refine wpAny_passesOwn hp (thn (hb _ s6 σ6 H6 _ I6 q6) fun f s7 q7 => ?_)
    have again : ∀ {σ7 : St} {H7 : Hp}, Inv X (pins ++ pinsAt fp s5.heap) σ7 H7 s7 → N σ7 H7 → ∃ m, m < n ∧ ∃ i σ' H', Inv X pins σ' H' s7 ∧ tn i s7.heap ∧ (∀ b ∈ fp, H' b = none) ∧ W i m σ' H' := fun {σ7 H7} I7 n7 => by
      obtain ⟨m', hm, w7⟩ := hN σ7 H7 n7
      refine ⟨m', hm, i + 1, σ7, H7, I7.unpinned, T.keep _ _ _ st5 fun b hb o e => (I7.pin (b, o) (List.mem_append_right _ (List.mem_append_right _ (mem_pinsAt hb e)))).1, fun b hb => ?_, w7⟩
      obtain ⟨o, e, d⟩ := T.obj _ _ st5 b hb
      exact (I7.pin (b, o) (List.mem_append_right _ (List.mem_append_right _ (mem_pinsAt hb e)))).2.1
    cases f with
    | next => obtain ⟨σ7, H7, I7, n7⟩ := q7; exact again I7 n7
    | cont => obtain ⟨σ7, H7, I7, n7⟩ := q7; exact again I7 n7
    | brk => obtain ⟨σ7, H7, I7, q7⟩ := q7; exact ⟨σ7, H7, I7.unpinned, q7⟩
    | ret v => obtain ⟨x7, σ7, H7, I7, r7, q7⟩ := q7; exact ⟨x7, σ7, H7, I7.unpinned, r7, q7⟩
end

/-! ### the forms one uses -/
/-- over a list that the body leaves as it is -/
theorem for_list {K : PySem.W.Frag} {a : Addr} {xs : List V} {g : TG} {tb : TS} {D : Ends} {σ : St} {H : Hp} (Pv : Nat → St → Hp → Prop) (h0 : Pv 0 σ H) (hl : ∀ i σ H, i ≤ xs.length → Pv i σ H → SqL K H a xs)
    (hs : ∀ i x σ H, xs[i]? = some x → Pv i σ H → g x σ H fun σ2 H2 => tb { D with nx := Pv (i + 1), ct := Pv (i + 1), bk := D.nx } σ2 H2) (hd : ∀ σ H, Pv xs.length σ H → D.nx σ H) :
    ∃ W : Nat → Nat → St → Hp → Prop, (∃ m, W 0 m σ H) ∧ ∀ i m σ H, W i m σ H →
      ((Itl K a).stop i H ∧ D.nx σ H) ∨ ((Itl K a).go i H ∧ ∃ N : St → Hp → Prop, (∀ σ' H', N σ' H' → ∃ m', m' < m ∧ W (i + 1) m' σ' H') ∧ ∀ x H', (Itl K a).yld i H x H' → g x σ H' fun σ2 H2 => tb { D with nx := N, ct := N, bk := D.nx } σ2 H2) := by
  refine ⟨fun i m σ H => m = xs.length - i ∧ i ≤ xs.length ∧ Pv i σ H, ⟨xs.length, by simp, Nat.zero_le _, h0⟩, ?_⟩
  rintro i m σ H ⟨rfl, hi, p⟩
  have q := hl i σ H hi p
  by_cases hlt : i < xs.length
  · refine .inr ⟨⟨xs, xs[i], q, by simp [hlt]⟩, Pv (i + 1), fun σ' H' p' => ⟨xs.length - (i + 1), by omega, rfl, hlt, p'⟩, fun x H' y => ?_⟩
    obtain ⟨e, y⟩ := y
    subst e
    exact hs i x σ _ (y xs q) p
  · have e : i = xs.length := by omega
    subst e
    exact .inl ⟨⟨xs, q, Nat.le_refl _⟩, hd σ H p⟩
theorem for_range {lo : Int} {n : Nat} {g : TG} {tb : TS} {D : Ends} {σ : St} {H : Hp} (Pv : Nat → St → Hp → Prop) (h0 : Pv 0 σ H)
    (hs : ∀ i σ H, i < n → Pv i σ H → g (.int (lo + i)) σ H fun σ2 H2 => tb { D with nx := Pv (i + 1), ct := Pv (i + 1), bk := D.nx } σ2 H2) (hd : ∀ σ H, Pv n σ H → D.nx σ H) :
    ∃ W : Nat → Nat → St → Hp → Prop, (∃ m, W 0 m σ H) ∧ ∀ i m σ H, W i m σ H →
      ((Itr lo n).stop i H ∧ D.nx σ H) ∨ ((Itr lo n).go i H ∧ ∃ N : St → Hp → Prop, (∀ σ' H', N σ' H' → ∃ m', m' < m ∧ W (i + 1) m' σ' H') ∧ ∀ x H', (Itr lo n).yld i H x H' → g x σ H' fun σ2 H2 => tb { D with nx := N, ct := N, bk := D.nx } σ2 H2) := by
  refine ⟨fun i m σ H => m = n - i ∧ i ≤ n ∧ Pv i σ H, ⟨n, by simp, Nat.zero_le _, h0⟩, ?_⟩
  rintro i m σ H ⟨rfl, hi, p⟩
  by_cases hlt : i < n
  · refine .inr ⟨hlt, Pv (i + 1), fun σ' H' p' => ⟨n - (i + 1), by omega, rfl, hlt, p'⟩, fun x H' y => ?_⟩
    obtain ⟨e, y⟩ := y
    subst e y
    exact hs i σ _ hlt p
  · have e : i = n := by omega
    subst e
    exact .inl ⟨Nat.le_refl _, hd σ H p⟩
end L2

namespace L2
open PySem PySem.Spec PyProof.Rows

abbrev R2 := V → V → Hp → VK → Prop
/-- a two-place operation on values: f is binaryOp op, inplaceOp op or compareOp op -/
def OpR (X : Cx) (f : Value → Value → Sem Value) (r : R2) : Prop :=
  ∀ (pins : List (Addr × Obj)) (s : Shared) (σ : St) (H : Hp) (x y : V) (v u : Value) (Q : VK), Inv X pins σ H s → RelV x v → RelV y u → r x y H Q →
    wpAny (model X.prog X.w) X.A (f v u) (EP X pins σ Q) X.xe s
/-- a one-place operation -/
def UnR (X : Cx) (f : Value → Sem Value) (r : V → Hp → VK → Prop) : Prop :=
  ∀ (pins : List (Addr × Obj)) (s : Shared) (σ : St) (H : Hp) (x : V) (v : Value) (Q : VK), Inv X pins σ H s → RelV x v → r x H Q →
    wpAny (model X.prog X.w) X.A (f v) (EP X pins σ Q) X.xe s
/-- a call of a value that is known (a builtin, a type) with values -/
def CallR (X : Cx) (f : Value) (r : List V → Hp → VK → Prop) : Prop :=
  ∀ (pins : List (Addr × Obj)) (s : Shared) (σ : St) (H : Hp) (xs : List V) (us : List Value) (Q : VK), Inv X pins σ H s → Vals xs us → r xs H Q →
    wpAny (model X.prog X.w) X.A (call f us) (EP X pins σ Q) X.xe s
def tOp (r : R2) (ta tb : TE) : TE := fun σ H Q => ta σ H fun x H1 => tb σ H1 fun y H2 => r x y H2 Q
def tUn (r : V → Hp → VK → Prop) (ta : TE) : TE := fun σ H Q => ta σ H fun x H1 => r x H1 Q
/-- ints in, under C, and a value out -/
def rI (C : Int → Int → Prop) (g : Int → Int → V) : R2 := fun x y H Q => ∃ i j, x = .int i ∧ y = .int j ∧ C i j ∧ Q (g i j) H
def rI0 (g : Int → Int → V) : R2 := fun x y H Q => ∃ i j, x = .int i ∧ y = .int j ∧ Q (g i j) H
def rU (g : Int → V) : V → Hp → VK → Prop := fun x H Q => ∃ i, x = .int i ∧ Q (g i) H

section
variable {X : Cx} {a b c : Expr} {ta tb tc : TE} {pos : Pos}

theorem binT (ha : PE X a ta) (hb : PE X b tb) {pins : List (Addr × Obj)} {s : Shared} {σ : St} {H : Hp} {R : V → V → Hp → Prop} (I : Inv X pins σ H s)
    (h : ta σ H fun x H1 => tb σ H1 fun y H2 => R x y H2) {Q : Value → Shared → Prop} {f : Value → Value → Sem Value}
    (hf : ∀ v u s2 x y H2, Inv X pins σ H2 s2 → RelV x v → RelV y u → R x y H2 → wpAny (model X.prog X.w) X.A (f v u) Q X.xe s2) :
    wpAny (model X.prog X.w) X.A (eval a X.env) (fun v s₁ => wpAny (model X.prog X.w) X.A (eval b X.env) (fun u s₂ => wpAny (model X.prog X.w) X.A (f v u) Q X.xe s₂) X.xe s₁) X.xe s := by
  refine thn (ha pins s σ H _ I h) fun v s1 ⟨x, H1, I1, r1, q1⟩ => ?_
  refine thn (hb pins s1 σ H1 _ I1 q1) fun u s2 ⟨y, H2, I2, r2, q2⟩ => ?_
  exact hf v u s2 x y H2 I2 r1 r2 q2

theorem pe_op {op : Operator} {r : R2} (ho : OpR X (binaryOp op) r) (ha : PE X a ta) (hb : PE X b tb) : PE X (.BinOp a op b pos) (tOp r ta tb) := by
  intro pins s σ H Q I h
  exact wpAny_BinOp (binT ha hb I h fun v u s2 x y H2 I2 rx ry q => ho pins s2 σ H2 x y v u Q I2 rx ry q)
theorem pe_un {op : UnaryOp} {r : V → Hp → VK → Prop} (ho : UnR X (unaryOp op) r) (ha : PE X a ta) : PE X (.UnaryOp op a pos) (tUn r ta) := by
  intro pins s σ H Q I h
  exact UnaryOp_ (thn (ha pins s σ H _ I h) fun v s1 ⟨x, H1, I1, r1, q1⟩ => ho pins s1 σ H1 x v Q I1 r1 q1)
/-! ### ints -/
theorem opI {f : Value → Value → Sem Value} {C : Int → Int → Prop} {g : Int → Int → Int}
    (rule : ∀ (i j : Int) (t u : Tok) (s : Shared) (Q : Value → Shared → Prop) (E : Value → Shared → Prop), C i j → Q (.int (g i j) s.toks) { s with toks := s.toks + 1 } → wpAny (model X.prog X.w) X.A (f (.int i t) (.int j u)) Q E s) :
    OpR X f (rI C fun i j => .int (g i j)) := by
  intro pins s σ H x y v u Q I rx ry h
  obtain ⟨i, j, rfl, rfl, hc, q⟩ := h
  obtain ⟨t, rfl⟩ := rx
  obtain ⟨t', rfl⟩ := ry
  exact rule i j t t' s _ _ hc ⟨.int (g i j), H, I.tok _, ⟨_, rfl⟩, q⟩
theorem opI0 {f : Value → Value → Sem Value} {g : Int → Int → Int}
    (rule : ∀ (i j : Int) (t u : Tok) (s : Shared) (Q : Value → Shared → Prop) (E : Value → Shared → Prop), Q (.int (g i j) s.toks) { s with toks := s.toks + 1 } → wpAny (model X.prog X.w) X.A (f (.int i t) (.int j u)) Q E s) :
    OpR X f (rI0 fun i j => .int (g i j)) := by
  intro pins s σ H x y v u Q I rx ry h
  obtain ⟨i, j, rfl, rfl, q⟩ := h
  obtain ⟨t, rfl⟩ := rx
  obtain ⟨t', rfl⟩ := ry
  exact rule i j t t' s _ _ ⟨.int (g i j), H, I.tok _, ⟨_, rfl⟩, q⟩
theorem opB0 {f : Value → Value → Sem Value} {g : Int → Int → Bool}
    (rule : ∀ (i j : Int) (t u : Tok) (s : Shared) (Q : Value → Shared → Prop) (E : Value → Shared → Prop), Q (.bool (g i j)) s → wpAny (model X.prog X.w) X.A (f (.int i t) (.int j u)) Q E s) :
    OpR X f (rI0 fun i j => .bl (g i j)) := by
  intro pins s σ H x y v u Q I rx ry h
  obtain ⟨i, j, rfl, rfl, q⟩ := h
  obtain ⟨t, rfl⟩ := rx
  obtain ⟨t', rfl⟩ := ry
  exact rule i j t t' s _ _ ⟨.bl (g i j), H, I, rfl, q⟩

def CDiv (i j : Int) : Prop := 0 < j ∧ j < 1073741824
def CPow (i j : Int) : Prop := 0 ≤ j ∧ j ≤ 1000000 ∧ i.natAbs < 2 ^ 64
def CMul (i j : Int) : Prop := (-(2 ^ 64) < i ∧ i < 2 ^ 64) ∨ (-(2 ^ 64) < j ∧ j < 2 ^ 64)
theorem CMul.ok {i j : Int} (h : CMul i j) : IntMulOk i j := by
  rcases h with ⟨h1, h2⟩ | ⟨h1, h2⟩
  · exact .of_left (intBits_le_64 h1 h2)
  · exact .of_right (intBits_le_64 h1 h2)
theorem op_add : OpR X (binaryOp .Add) (rI0 fun i j => .int (i + j)) := opI0 fun _ _ _ _ _ _ _ q => add_int q
theorem op_sub : OpR X (binaryOp .Sub) (rI0 fun i j => .int (i - j)) := opI0 fun _ _ _ _ _ _ _ q => sub_int q
theorem op_mul : OpR X (binaryOp .Mult) (rI CMul fun i j => .int (i * j)) := opI fun _ _ _ _ _ _ _ hc q => mul_int q hc.ok
/-- // by a positive divisor -/
theorem op_fdiv : OpR X (binaryOp .FloorDiv) (rI CDiv fun i j => .int (i / j)) := opI fun i j _ _ _ _ _ hc q => by
  have h1 : (0 : Int) < j := hc.1
  have h2 : j < 1073741824 := hc.2
  exact floordiv_int (by omega) (by rw [Int.fdiv_eq_ediv_of_nonneg i (by omega)]; exact q) (.inl (PyProof.noPylong_small (by omega)))
/-- % by a positive divisor of any size -/
theorem op_mod : OpR X (binaryOp .Mod) (rI (fun _ j => 0 < j) fun i j => .int (i % j)) := opI fun i j _ _ _ _ _ hc q => by
  have h1 : (0 : Int) < j := hc
  exact mod_int' (by omega) (by rw [Int.fmod_eq_emod_of_nonneg i (by omega)]; exact q)
theorem op_pow : OpR X (binaryOp .Pow) (rI CPow fun i j => .int (i ^ j.toNat)) := opI fun _ _ _ _ _ _ _ hc q => pow_int_small hc.1 hc.2.1 hc.2.2 q
theorem unI {f : Value → Sem Value} {g : Int → Int}
    (rule : ∀ (i : Int) (t : Tok) (s : Shared) (Q : Value → Shared → Prop) (E : Value → Shared → Prop), Q (.int (g i) s.toks) { s with toks := s.toks + 1 } → wpAny (model X.prog X.w) X.A (f (.int i t)) Q E s) :
    UnR X f (rU fun i => .int (g i)) := by
  intro pins s σ H x v Q I rx h
  obtain ⟨i, rfl, q⟩ := h
  obtain ⟨t, rfl⟩ := rx
  exact rule i t s _ _ ⟨.int (g i), H, I.tok _, ⟨_, rfl⟩, q⟩
theorem un_neg : UnR X (unaryOp .USub) (rU fun i => .int (-i)) := unI fun _ _ _ _ _ q => neg_int q
/-! ### bools among ints: n += (a < b) -/
end

/-! ### comparisons -/
/-- the scalars that == tells apart as data does -/
def scal : V → V → Bool
  | .non, .non => true | .non, .int _ => true | .int _, .non => true | .non, .bl _ => true | .bl _, .non => true | .non, .str _ => true | .str _, .non => true
  | .int _, .int _ => true | .bl _, .bl _ => true | .str _, .str _ => true | .byt _, .byt _ => true
  | .int _, .str _ => true | .str _, .int _ => true | .bl _, .str _ => true | .str _, .bl _ => true
  | _, _ => false
def rEq : R2 := fun x y H Q => scal x y = true ∧ Q (.bl (decide (x = y))) H
def rNe : R2 := fun x y H Q => scal x y = true ∧ Q (.bl (!decide (x = y))) H

theorem dec_int {i j : Int} : decide (V.int i = V.int j) = (i == j) := by
  rw [Bool.eq_iff_iff]
  simp
theorem dec_bl {i j : Bool} : decide (V.bl i = V.bl j) = (i == j) := by
  rw [Bool.eq_iff_iff]
  simp
theorem dec_str {i j : Str} : decide (V.str i = V.str j) = (i == j) := by
  rw [Bool.eq_iff_iff]
  simp
theorem dec_byt {i j : Array UInt8} : decide (V.byt i = V.byt j) = (i.toList == j.toList) := by
  rw [Bool.eq_iff_iff]
  cases i
  cases j
  simp

section
variable {X : Cx} {a b c : Expr} {ta tb tc : TE} {pos : Pos}
theorem fin_bl {pins : List (Addr × Obj)} {σ : St} {H : Hp} {s : Shared} {Q : VK} {k k' : Bool} (I : Inv X pins σ H s) (q : Q (.bl k) H) (e : k = k') : EP X pins σ Q (.bool k') s := by
  subst e
  exact ⟨.bl k, H, I, rfl, q⟩
theorem op_eq : OpR X (compareOp .Eq) rEq := by
  intro pins s σ H x y v u Q I rx ry h
  obtain ⟨hs, q⟩ := h
  cases x with
  | non =>
    cases rx
    cases y with
    | non => cases ry; exact PySem.EqNone.eq_none_none (fin_bl I q (by simp))
    | bl j => cases ry; exact PySem.EqNone.eq_none_bool (fin_bl I q (by simp))
    | int j => obtain ⟨t', rfl⟩ := ry; exact PySem.EqNone.eq_none_int (fin_bl I q (by simp))
    | str j => obtain ⟨t', rfl⟩ := ry; exact PySem.EqNone.eq_none_str (fin_bl I q (by simp))
    | _ => exact absurd (show false = true from hs) Bool.false_ne_true
  | bl i =>
    cases rx
    cases y with
    | non => cases ry; exact PySem.EqNone.eq_bool_none (fin_bl I q (by simp))
    | bl j => cases ry; exact eq_bool (fin_bl I q dec_bl)
    | str j => obtain ⟨t', rfl⟩ := ry; exact PySem.EqMixed.eq_bool_str (fin_bl I q (by simp))
    | _ => exact absurd (show false = true from hs) Bool.false_ne_true
  | int i =>
    obtain ⟨t, rfl⟩ := rx
    cases y with
    | non => cases ry; exact PySem.EqNone.eq_int_none (fin_bl I q (by simp))
    | int j => obtain ⟨t', rfl⟩ := ry; exact eq_int (fin_bl I q dec_int)
    | str j => obtain ⟨t', rfl⟩ := ry; exact PySem.EqMixed.eq_int_str (fin_bl I q (by simp))
    | _ => exact absurd (show false = true from hs) Bool.false_ne_true
  | str i =>
    obtain ⟨t, rfl⟩ := rx
    cases y with
    | non => cases ry; exact PySem.EqNone.eq_str_none (fin_bl I q (by simp))
    | bl j => cases ry; exact PySem.EqMixed.eq_str_bool (fin_bl I q (by simp))
    | int j => obtain ⟨t', rfl⟩ := ry; exact PySem.EqMixed.eq_str_int (fin_bl I q (by simp))
    | str j => obtain ⟨t', rfl⟩ := ry; exact eq_str (fin_bl I q dec_str)
    | _ => exact absurd (show false = true from hs) Bool.false_ne_true
  | byt i =>
    obtain ⟨t, rfl⟩ := rx
    cases y with
    | byt j => obtain ⟨t', rfl⟩ := ry; exact PySem.W.eq_bytes (fin_bl I q dec_byt)
    | _ => exact absurd (show false = true from hs) Bool.false_ne_true
  | _ => cases y <;> exact absurd (show false = true from hs) Bool.false_ne_true
theorem op_ne : OpR X (compareOp .NotEq) rNe := by
  intro pins s σ H x y v u Q I rx ry h
  obtain ⟨hs, q⟩ := h
  cases x with
  | non =>
    cases rx
    cases y with
    | non => cases ry; exact PySem.EqNone.ne_none_none (fin_bl I q (by simp))
    | bl j => cases ry; exact PySem.EqNone.ne_none_bool (fin_bl I q (by simp))
    | int j => obtain ⟨t', rfl⟩ := ry; exact PySem.EqNone.ne_none_int (fin_bl I q (by simp))
    | str j => obtain ⟨t', rfl⟩ := ry; exact PySem.EqNone.ne_none_str (fin_bl I q (by simp))
    | _ => exact absurd (show false = true from hs) Bool.false_ne_true
  | bl i =>
    cases rx
    cases y with
    | non => cases ry; exact PySem.EqNone.ne_bool_none (fin_bl I q (by simp))
    | bl j => cases ry; exact ne_bool (fin_bl I q (congrArg not dec_bl))
    | str j => obtain ⟨t', rfl⟩ := ry; exact PySem.EqMixed.ne_bool_str (fin_bl I q (by simp))
    | _ => exact absurd (show false = true from hs) Bool.false_ne_true
  | int i =>
    obtain ⟨t, rfl⟩ := rx
    cases y with
    | non => cases ry; exact PySem.EqNone.ne_int_none (fin_bl I q (by simp))
    | int j => obtain ⟨t', rfl⟩ := ry; exact ne_int (fin_bl I q (congrArg not dec_int))
    | str j => obtain ⟨t', rfl⟩ := ry; exact PySem.EqMixed.ne_int_str (fin_bl I q (by simp))
    | _ => exact absurd (show false = true from hs) Bool.false_ne_true
  | str i =>
    obtain ⟨t, rfl⟩ := rx
    cases y with
    | non => cases ry; exact PySem.EqNone.ne_str_none (fin_bl I q (by simp))
    | bl j => cases ry; exact PySem.EqMixed.ne_str_bool (fin_bl I q (by simp))
    | int j => obtain ⟨t', rfl⟩ := ry; exact PySem.EqMixed.ne_str_int (fin_bl I q (by simp))
    | str j => obtain ⟨t', rfl⟩ := ry; exact ne_str (fin_bl I q (congrArg not dec_str))
    | _ => exact absurd (show false = true from hs) Bool.false_ne_true
  | byt i =>
    obtain ⟨t, rfl⟩ := rx
    cases y with
    | byt j => obtain ⟨t', rfl⟩ := ry; exact PySem.W.ne_bytes (fin_bl I q (congrArg not dec_byt))
    | _ => exact absurd (show false = true from hs) Bool.false_ne_true
  | _ => cases y <;> exact absurd (show false = true from hs) Bool.false_ne_true

theorem op_lt : OpR X (compareOp .Lt) (rI0 fun i j => .bl (decide (i < j))) := opB0 fun _ _ _ _ _ _ _ q => lt_int q
theorem op_le : OpR X (compareOp .LtE) (rI0 fun i j => .bl (decide (i ≤ j))) := opB0 fun _ _ _ _ _ _ _ q => le_int q
theorem op_gt : OpR X (compareOp .Gt) (rI0 fun i j => .bl (decide (j < i))) := opB0 fun _ _ _ _ _ _ _ q => gt_int q
theorem op_ge : OpR X (compareOp .GtE) (rI0 fun i j => .bl (decide (j ≤ i))) := opB0 fun _ _ _ _ _ _ _ q => ge_int q
/-- the one string within the other -/
theorem op_in_str : OpR X (compareOp .In) (fun x y H Q => ∃ i j, x = .str i ∧ y = .str j ∧ Q (.bl (!(Builtin.Str.occurrences j i 0 j.length 1).isEmpty)) H) := by
  intro pins s σ H x y v u Q I rx ry h
  obtain ⟨i, j, rfl, rfl, q⟩ := h
  obtain ⟨t, rfl⟩ := rx
  obtain ⟨t', rfl⟩ := ry
  exact in_str (fin_bl I q rfl)

/-- is None, is not None: the right side a value none -/
theorem op_isN : OpR X (compareOp .Is) (fun x y H Q => y = .non ∧ Q (.bl (decide (x = .non))) H) := by
  intro pins s σ H x y v u Q I rx ry h
  obtain ⟨rfl, q⟩ := h
  cases ry
  refine is_none_gen (fin_bl I q ?_)
  cases x <;> first
    | (cases rx; rfl)
    | (obtain ⟨t, rfl⟩ := rx; rfl)
theorem op_notN : OpR X (compareOp .IsNot) (fun x y H Q => y = .non ∧ Q (.bl (!decide (x = .non))) H) := by
  intro pins s σ H x y v u Q I rx ry h
  obtain ⟨rfl, q⟩ := h
  cases ry
  refine isnot_none_gen (fin_bl I q ?_)
  cases x <;> first
    | (cases rx; rfl)
    | (obtain ⟨t, rfl⟩ := rx; rfl)

/-- is, is not of two objects that are tracked lists or instances -/
def isObj : HO → Bool
  | .lst _ => true
  | .ins _ _ _ => true
  | _ => false
theorem nomark (b : Expr) {op : CmpOp} (h : op ≠ .In := by decide) (h2 : op ≠ .NotIn := by decide) : behindInMarks op b = false := by
  have e1 : (op == CmpOp.In) = false := by cases op <;> first | rfl | exact absurd rfl h
  have e2 : (op == CmpOp.NotIn) = false := by cases op <;> first | rfl | exact absurd rfl h2
  cases b <;> simp [behindInMarks, e1, e2]
/-- a comparison as a value; hm: nomark b, or (for in, not in) by with_unfolding_all rfl -/
theorem pe_cmpR {op : CmpOp} {r : R2} (ho : OpR X (compareOp op) r) (ha : PE X a ta) (hb : PE X b tb) (hm : behindInMarks op b = false) : PE X (.Compare a [op] [b] pos) (tOp r ta tb) := by
  intro pins s σ H Q I h
  exact wpAny_Compare1 (binT ha hb I h fun v u s2 x y H2 I2 rx ry q => ho pins s2 σ H2 x y v u Q I2 rx ry q) hm
/-- a reading of a value as a test -/
def tTest (t : TE) : TT := fun σ H Q => t σ H fun x H' => ∃ k, x = .bl k ∧ Q k H'
theorem pt_cmpR {op : CmpOp} {r : R2} (ho : OpR X (compareOp op) r) (ha : PE X a ta) (hb : PE X b tb) (hm : behindInMarks op b = false) : PT X (.Compare a [op] [b] pos) (tTest (tOp r ta tb)) := by
  intro pins s σ H Q I h
  refine wpAny_isTrue_Compare1 (thn (ha pins s σ H _ I h) fun v s1 ⟨x, H1, I1, r1, q1⟩ => thn (hb pins s1 σ H1 _ I1 q1) fun u s2 ⟨y, H2, I2, r2, q2⟩ =>
    thn (ho pins s2 σ H2 x y v u _ I2 r1 r2 q2) fun c s3 ⟨z, H3, I3, r3, k, e, q3⟩ => ?_) hm
  subst e
  cases r3
  exact wpAny_truthy_bool ⟨H3, I3, q3⟩
/-- a op1 b op2 c -/
def tChain (r r' : R2) (ta tb tc : TE) : TE := fun σ H Q => ta σ H fun x H1 => tb σ H1 fun y H2 => r x y H2 fun z H3 => ∃ k, z = .bl k ∧
  (if k = true then tc σ H3 fun w' H4 => r' y w' H4 Q else Q (.bl false) H3)
theorem pe_chain {op op' : CmpOp} {r r' : R2} (ho : OpR X (compareOp op) r) (ho' : OpR X (compareOp op') r') (ha : PE X a ta) (hb : PE X b tb) (hc : PE X c tc)
    (hm : lastMarks [op, op'] [b, c] = false := by with_unfolding_all rfl) : PE X (.Compare a [op, op'] [b, c] pos) (tChain r r' ta tb tc) := by
  intro pins s σ H Q I h
  refine Compare_chain (thn (ha pins s σ H _ I h) fun v s1 ⟨x, H1, I1, r1, q1⟩ => chain_link (thn (hb pins s1 σ H1 _ I1 q1) fun u s2 ⟨y, H2, I2, r2, q2⟩ =>
    thn (ho pins s2 σ H2 x y v u _ I2 r1 r2 q2) fun d s3 ⟨z, H3, I3, r3, k, e, q3⟩ => ?_)) hm
  subst e
  cases r3
  refine wpAny_truthy_bool ?_
  cases k with
  | false => exact ite_ff ⟨.bl false, H3, I3, rfl, q3⟩
  | true => exact ite_tt (chain_last (thn (hc pins s3 σ H3 _ I3 q3) fun w' s4 ⟨z', H4, I4, r4, q4⟩ => ho' pins s4 σ H4 y z' u w' Q I4 r2 r4 q4))
theorem pt_chain {op op' : CmpOp} {r r' : R2} (ho : OpR X (compareOp op) r) (ho' : OpR X (compareOp op') r') (ha : PE X a ta) (hb : PE X b tb) (hc : PE X c tc)
    (hm : lastMarks [op, op'] [b, c] = false := by with_unfolding_all rfl) : PT X (.Compare a [op, op'] [b, c] pos) (tTest (tChain r r' ta tb tc)) := by
  intro pins s σ H Q I h
  refine isTrue_chain (thn (ha pins s σ H _ I h) fun v s1 ⟨x, H1, I1, r1, q1⟩ => test_link (thn (hb pins s1 σ H1 _ I1 q1) fun u s2 ⟨y, H2, I2, r2, q2⟩ =>
    thn (ho pins s2 σ H2 x y v u _ I2 r1 r2 q2) fun d s3 ⟨z, H3, I3, r3, k, e, q3⟩ => ?_)) hm
  subst e
  cases r3
  refine wpAny_truthy_bool ?_
  cases k with
  | false =>
    obtain ⟨k', e', q'⟩ := q3
    cases e'
    exact ite_ff ⟨H3, I3, q'⟩
  | true =>
    refine ite_tt (test_last (thn (hc pins s3 σ H3 _ I3 q3) fun w' s4 ⟨z', H4, I4, r4, q4⟩ => thn (ho' pins s4 σ H4 y z' u w' _ I4 r2 r4 q4) fun d' s5 ⟨z2, H5, I5, r5, k2, e2, q5⟩ => ?_))
    subst e2
    cases r5
    exact wpAny_truthy_bool ⟨H5, I5, q5⟩

/-! ### truth -/
theorem line63 : (sizeLine : Nat) < 2 ^ 63 := by rw [sizeLine_eq]; decide
/-! ### strs and bytes -/
theorem op_add_str : OpR X (binaryOp .Add) (fun x y H Q => ∃ i j, x = .str i ∧ y = .str j ∧ i.length + j.length ≤ sizeLine ∧ Q (.str (i ++ j)) H) := by
  intro pins s σ H x y v u Q I rx ry h
  obtain ⟨i, j, rfl, rfl, hz, q⟩ := h
  obtain ⟨t, rfl⟩ := rx
  obtain ⟨t', rfl⟩ := ry
  exact add_str (fun t' tk => ⟨.str (i ++ j), H, I.tok _, ⟨_, rfl⟩, q⟩) hz
/-! ### scalar builtins, by CallR -/
theorem vals1 {x : V} {us : List Value} (r : Vals [x] us) : ∃ u, us = [u] ∧ RelV x u := by
  cases r with
  | cons r1 r2 => cases r2; exact ⟨_, rfl, r1⟩
theorem vals2 {x y : V} {us : List Value} (r : Vals [x, y] us) : ∃ u w', us = [u, w'] ∧ RelV x u ∧ RelV y w' := by
  cases r with
  | cons r1 r2 =>
    cases r2 with
    | cons r3 r4 => cases r4; exact ⟨_, _, rfl, r1, r3⟩
theorem call_abs : CallR X (.builtin "abs") (fun xs H Q => ∃ i, xs = [.int i] ∧ Q (.int (if i < 0 then -i else i)) H) := by
  intro pins s σ H xs us Q I r h
  obtain ⟨i, rfl, q⟩ := h
  obtain ⟨u, rfl, t, rfl⟩ := vals1 r
  exact call_abs_int fun u tk => ⟨.int (if i < 0 then -i else i), H, I.tok _, ⟨_, rfl⟩, q⟩
theorem call_max2 (hc : X.calm = true) : CallR X (.builtin "max") (fun xs H Q => ∃ i j, xs = [.int i, .int j] ∧ Q (.int (if j > i then j else i)) H) := by
  intro pins s σ H xs us Q I r h
  obtain ⟨i, j, rfl, q⟩ := h
  obtain ⟨u, w', rfl, ⟨t, rfl⟩, ⟨t', rfl⟩⟩ := vals2 r
  refine max_two_ints (I.ok.hd hc) fun h' tk k => ⟨_, H, I.kept k, ?_, q⟩
  by_cases hj : j > i
  · rw [if_pos hj, if_pos hj]; exact ⟨_, rfl⟩
  · rw [if_neg hj, if_neg hj]; exact ⟨_, rfl⟩
theorem call_min2 (hc : X.calm = true) : CallR X (.builtin "min") (fun xs H Q => ∃ i j, xs = [.int i, .int j] ∧ Q (.int (if j < i then j else i)) H) := by
  intro pins s σ H xs us Q I r h
  obtain ⟨i, j, rfl, q⟩ := h
  obtain ⟨u, w', rfl, ⟨t, rfl⟩, ⟨t', rfl⟩⟩ := vals2 r
  refine min_two_ints (I.ok.hd hc) fun h' tk k => ⟨_, H, I.kept k, ?_, q⟩
  by_cases hj : j < i
  · rw [if_pos hj, if_pos hj]; exact ⟨_, rfl⟩
  · rw [if_neg hj, if_neg hj]; exact ⟨_, rfl⟩
theorem call_int1 : CallR X (.type "int") (fun xs H Q => (∃ i, xs = [.int i] ∧ Q (.int i) H) ∨ ∃ k, xs = [.bl k] ∧ Q (.int (if k then 1 else 0)) H) := by
  intro pins s σ H xs us Q I r h
  rcases h with ⟨i, rfl, q⟩ | ⟨k, rfl, q⟩
  · obtain ⟨u, rfl, t, rfl⟩ := vals1 r
    exact call_int_int ⟨.int i, H, I, ⟨_, rfl⟩, q⟩
  · obtain ⟨u, rfl, r1⟩ := vals1 r
    cases r1
    exact call_int_bool ⟨.int (if k then 1 else 0), H, I.tok _, ⟨_, rfl⟩, q⟩
theorem call_str_int : CallR X (.type "str") (fun xs H Q => ∃ i, xs = [.int i] ∧ i.natAbs.log2 < 1920 ∧ Q (.str (toString i)) H) := by
  intro pins s σ H xs us Q I r h
  obtain ⟨i, rfl, hz, q⟩ := h
  obtain ⟨u, rfl, t, rfl⟩ := vals1 r
  exact PySem.P.str_of_int hz ⟨.str _, H, I.tok _, ⟨_, rfl⟩, q⟩
/-- len of a str, a bytes, a list, a tuple -/
def LenV (K : PySem.W.Frag) (x : V) (H : Hp) (n : Nat) : Prop :=
  match x with
  | .str y => y.length ≤ sizeLine ∧ n = y.length
  | .byt y => y.size ≤ sizeLine ∧ n = y.size
  | .ref p => (∃ xs, SqL K H p xs ∧ n = xs.length) ∨ ∃ xs, SqT K H p xs ∧ n = xs.length
  | _ => False
theorem call_len : CallR X (.builtin "len") (fun xs H Q => ∃ x n, xs = [x] ∧ LenV X.K x H n ∧ Q (.int n) H) := by
  intro pins s σ H xs us Q I r h
  obtain ⟨x, n, rfl, e, q⟩ := h
  obtain ⟨u, rfl, rx⟩ := vals1 r
  have hl := line63
  have hs : sizeLine = 16777216 := sizeLine_eq
  cases x with
  | str y =>
    obtain ⟨t, rfl⟩ := rx
    obtain ⟨hy, e'⟩ : y.length ≤ sizeLine ∧ n = y.length := e
    subst e'
    exact len_str (by omega) ⟨.int _, H, I.tok _, ⟨_, rfl⟩, q⟩
  | byt y =>
    obtain ⟨t, rfl⟩ := rx
    obtain ⟨hy, e'⟩ : y.size ≤ sizeLine ∧ n = y.size := e
    subst e'
    exact PySem.W.len_bytes (by omega) ⟨.int _, H, I.tok _, ⟨_, rfl⟩, q⟩
  | ref p =>
    cases rx
    have e' : (∃ xs, SqL X.K H p xs ∧ n = xs.length) ∨ ∃ xs, SqT X.K H p xs ∧ n = xs.length := e
    rcases e' with ⟨xs, hx, e'⟩ | ⟨xs, hx, e'⟩
    · subst e'
      obtain ⟨its, r', pl, hz⟩ := I.list hx
      have hlen := r'.length
      exact Calls.call_len_list pl.isList (by simp only [List.size_toArray]; omega) ⟨.int xs.length, H, I.tok _, ⟨_, by simp only [List.size_toArray]; rw [hlen]⟩, q⟩
    · subst e'
      obtain ⟨its, r', pl, hz⟩ := I.tuple hx
      have hlen := r'.length
      exact len_tuple pl (by simp only [List.size_toArray]; omega) ⟨.int xs.length, H, I.tok _, ⟨_, by simp only [List.size_toArray]; rw [hlen]⟩, q⟩
  | _ => exact (show False from e).elim
end
end L2

namespace L2
open PySem PySem.Spec PyProof.Rows

/-! ### an instance, its attributes a map -/
structure ObjM (h : Heap) (x dx C : Addr) (mA : Str → Option Value) : Prop where
  obj : h.get? x = some (PySem.W.instObj C dx)
  ns : h.Ns1 dx mA
  ne : dx ≠ x

theorem lookIn_ns {h : Heap} {dx : Addr} {mA : Str → Option Value} (n : h.Ns1 dx mA) : ∃ od, h.get? dx = some od ∧ ∀ name, PySem.W.lookIn name od = some (mA name) := by
  obtain ⟨o, es, ep, ho, hd, hk, _, hm⟩ := n
  refine ⟨o, ho, fun name => ?_⟩
  have e := hm name
  unfold nsFind findBy at e
  rw [← Array.find?_toList] at e
  unfold PySem.W.lookIn
  rw [hd]
  dsimp only
  split
  · rename_i y q
    rw [q] at e
    exact congrArg some e
  · rename_i q
    rw [q] at e
    have a : es.toList.any (·.refKey) = false := by
      rw [List.any_eq_false]
      intro y hy
      obtain ⟨z, t, hkey⟩ := hk y (Array.mem_toList_iff.mp hy)
      simp [DictEntry.refKey, hkey]
    have a' : ¬ es.toList.any (·.refKey) = true := by rw [a]; exact Bool.false_ne_true
    rw [if_neg a']
    exact congrArg some e

theorem ObjM.look {h : Heap} {x dx C : Addr} {mA : Str → Option Value} (I : ObjM h x dx C mA) : ∃ od, PySem.W.InstAt h x (PySem.W.instObj C dx) C (some od) ∧ ∀ name, PySem.W.lookIn name od = some (mA name) :=
  let ⟨od, ho, hl⟩ := lookIn_ns I.ns
  ⟨od, ⟨I.obj, rfl, rfl, ho⟩, hl⟩

section
variable {prog : Program} {w : World} {A : Around} {E : Value → Shared → Prop} {s : Shared} {K : PySem.W.Frag} {x dx C f : Addr} {mA : Str → Option Value} {name : Str} {v : Value}

end

/-! ### the attributes as a list of pairs -/
section
variable {P : Program} {w : World} {H H' : Hp} {h h' : Heap} {a C dx : Addr} {fs fs' : List (Str × V)}
theorem ins_get (hok : HOk P w H h) (e : H a = some (.ins C dx fs)) : ∃ mA, ObjM h a dx C mA ∧ (∀ f, RelO (fs.lookup f) (mA f)) ∧ PySem.Within mA (fs.map (·.1)) ∧ fs.length ≤ 1000 ∧ H dx = some (.own a) := by
  obtain ⟨d, z, ne, ob, mA, n, r, q⟩ := (show ObjOk P w H h a (.ins C dx fs) from hok a _ e)
  exact ⟨mA, ⟨ob, n, ne⟩, r, q, z, d⟩
end

/-! ### what of the text a class must have -/
structure Cls (K : PySem.W.Frag) (C : Addr) : Prop where
  pg : PySem.W.plainGet K C Str.empty = true
  hd : PySem.W.hasDictIn K C = true
  po : PySem.W.plainOver K C = true
  sa : PySem.W.findIn K (.ref C) "__setattr__" = some (some (.builtin "object.__setattr__"))
theorem Cls.get {K : PySem.W.Frag} {C : Addr} (c : Cls K C) (f : Str) : PySem.W.plainGet K C f = true := c.pg
section
variable {X : Cx} {pins : List (Addr × Obj)} {σ : St} {H : Hp} {s : Shared} {a C dx : Addr} {fs : List (Str × V)} {f : Str} {v : V} {A : Around} {E : Value → Shared → Prop}

end

/-! ### readings and rules -/
section
variable {X : Cx} {o e value : Expr} {f : Str} {pos pos' tpos : Pos} {ta tv : TE}
end

/-! ### isinstance -/
section
variable {X : Cx} {pins : List (Addr × Obj)} {σ : St} {H : Hp} {s : Shared} {A : Around} {E : Value → Shared → Prop} {Q : Value → Shared → Prop} {c : Value} {b : Bool}
/-- the type of a value, as the fragment's deciders take it; for an instance its class -/
inductive TyOf (K : PySem.W.Frag) (H : Hp) : V → Value → Prop where
  | non : TyOf K H .non (.type "NoneType")
  | bl (x : Bool) : TyOf K H (.bl x) (.type "bool")
  | int (i : Int) : TyOf K H (.int i) (.type "int")
  | str (x : Str) : TyOf K H (.str x) (.type "str")
  | flt (x : UInt64) : TyOf K H (.flt x) (.type "float")
  | lst {a : Addr} {xs : List V} (e : H a = some (.lst xs)) : TyOf K H (.ref a) (.type "list")
  | frz {a : Addr} {o : Obj} {xs : List V} (e : H a = some (.frz o (.lst xs))) : TyOf K H (.ref a) (.type "list")
  | tup {a : Addr} {xs : List V} (e : H a = some (.tup xs)) : TyOf K H (.ref a) (.type "tuple")
  | dK {a : Addr} {kvs : List (Key × V)} (e : H a = some (.dK kvs)) : TyOf K H (.ref a) (.type "dict")
  | dT {a : Addr} {kvs : List (List Key × V)} (e : H a = some (.dT kvs)) : TyOf K H (.ref a) (.type "dict")
  | ins {a C dx : Addr} {fs : List (Str × V)} (e : H a = some (.ins C dx fs)) (cl : Cls K C) (ha : PySem.W.findIn K (.ref C) "__class__" = some (some (.builtin "object.__class__")))
      (hn : PySem.W.specialIn K (.builtin "object.__class__") "__get__" = some (some (.builtin "getset_descriptor.__get__"))) (htk : PySem.W.takesIn K (.builtin "object.__class__") = some true)
      (hm : PySem.W.mroIn K C (.type "object") = some true) : TyOf K H (.ref a) (.ref C)
/-- isinstance(x, c) for one class c, a built-in or an own one: kitOne's answer -/
theorem isinst_ok {x : V} {u t : Value} (I : Inv X pins σ H s) (rx : RelV x u) (ty : TyOf X.K H x t) (e : PySem.W.kitOne X.K t c = some b) (h : ∀ tk, Q (.bool b) { s with toks := tk }) :
    wpAny (model X.prog X.w) A (call (.builtin "isinstance") [u, c]) Q E s := by
  cases ty with
  | non => cases (show u = Value.none from rx); exact PySem.W.kia_one PySem.W.kitx_none I.kIn True.intro e (fun z => nomatch z) h
  | bl y => cases (show u = Value.bool y from rx); exact PySem.W.kia_one PySem.W.kitx_bool I.kIn True.intro e (fun z => nomatch z) h
  | int i => obtain ⟨t, q⟩ := (show ∃ t, u = Value.int i t from rx); cases q; exact PySem.W.kia_one PySem.W.kitx_int I.kIn True.intro e (fun z => nomatch z) h
  | str y => obtain ⟨t, q⟩ := (show ∃ t, u = Value.str y t from rx); cases q; exact PySem.W.kia_one PySem.W.kitx_str I.kIn True.intro e (fun z => nomatch z) h
  | flt y => obtain ⟨t, q⟩ := (show ∃ t, u = Value.float y t from rx); cases q; exact PySem.W.kia_one PySem.W.kitx_float I.kIn True.intro e (fun z => nomatch z) h
  | @lst a xs ea =>
    cases (show u = Value.ref a from rx)
    obtain ⟨_, _, n, _, h1⟩ := (show ObjOk X.prog X.w H s.heap a (.lst xs) from I.hok a _ ea)
    exact PySem.W.kia_one PySem.W.kitx_list I.kIn ⟨_, h1, rfl⟩ e (fun z => nomatch z) h
  | @frz a ob xs ea =>
    cases (show u = Value.ref a from rx)
    obtain ⟨_, _, _, n, _, h1⟩ := (show ObjOk X.prog X.w H s.heap a (.frz ob (.lst xs)) from I.hok a _ ea)
    exact PySem.W.kia_one PySem.W.kitx_list I.kIn ⟨_, h1, rfl⟩ e (fun z => nomatch z) h
  | @tup a xs ea =>
    cases (show u = Value.ref a from rx)
    obtain ⟨_, _, _, p⟩ := (show ObjOk X.prog X.w H s.heap a (.tup xs) from I.hok a _ ea)
    obtain ⟨o, h1, h2, _⟩ := p
    exact PySem.W.kia_one PySem.W.kitx_tuple I.kIn ⟨o, h1, h2⟩ e (fun z => nomatch z) h
  | @dK a kvs ea =>
    cases (show u = Value.ref a from rx)
    obtain ⟨_, _, vs, _, p⟩ := (show ObjOk X.prog X.w H s.heap a (.dK kvs) from I.hok a _ ea)
    obtain ⟨o, es, ep, h1, h2, _⟩ := p
    exact PySem.W.kia_one PySem.W.kitx_dict I.kIn ⟨o, h1, h2.1⟩ e (fun z => nomatch z) h
  | @dT a kvs ea =>
    cases (show u = Value.ref a from rx)
    obtain ⟨_, _, xs, _, o, es, ep, h1, h2, _⟩ := (show ObjOk X.prog X.w H s.heap a (.dT kvs) from I.hok a _ ea)
    exact PySem.W.kia_one PySem.W.kitx_dict I.kIn ⟨o, h1, h2.1⟩ e (fun z => nomatch z) h
  | @ins a C dx fs ea cl ha hn htk hm =>
    cases (show u = Value.ref a from rx)
    obtain ⟨mA, O, _⟩ := ins_get I.hok ea
    obtain ⟨od, J, _⟩ := O.look
    exact PySem.W.kia_one (PySem.W.kitx_own (cl.get _) cl.hd ha hn htk hm) I.kIn J e (fun z => nomatch z) h
end
end L2

namespace L2
open PySem PySem.Spec PyProof.Rows

/-! ### room -/
structure Room (k : Nat) (A : Around) : Prop where
  hd : A.handled = none
  dp : A.depth + 3 * k + 5 < recursionLimit
  un : A.units + 16 * k + 200 < cLine
theorem Room.mono {j k : Nat} {A : Around} (r : Room k A) (h : j ≤ k) : Room j A := ⟨r.hd, by have := r.dp; omega, by have := r.un; omega⟩
theorem Room.deeper {k : Nat} {A : Around} (r : Room (k + 1) A) (env : Env) : Room k (A.deeper env) :=
  ⟨r.hd, by have := r.dp; show A.depth + 1 + 3 * k + 5 < _; omega, by have := r.un; show A.units + 3 + 16 * k + 200 < _; omega⟩
theorem Room.depth {k : Nat} {A : Around} (r : Room k A) : A.depth < recursionLimit := by have := r.dp; omega
theorem Room.units {k : Nat} {A : Around} (r : Room k A) : A.units + 64 < cLine := by have := r.un; omega
/-! ### argument lists and displays -/
def tNil : TA := fun _ H Q => Q [] H
def tCons (ta : TE) (tr : TA) : TA := fun σ H Q => ta σ H fun x H1 => tr σ H1 fun xs H2 => Q (x :: xs) H2
section
variable {X : Cx} {e : Expr} {es : List Expr} {te : TE} {t : TA} {pos : Pos}
theorem pa_nil : PA X [] tNil := fun _ _ _ _ H Q I h => Calls.spliced_nil ⟨[], H, I, .nil, h⟩
theorem pa_cons (ha : PE X e te) (hr : PA X es t) (hs : starEach (e :: es) X.env = (false, eval e X.env) :: starEach es X.env := by rfl) : PA X (e :: es) (tCons te t) := by
  intro pos pins s σ H Q I h
  rw [hs]
  show wpAny _ _ (spliced ((false, eval e X.env) :: backTo pos (starEach es X.env))) _ _ s
  refine Calls.spliced_cons (thn (ha pins s σ H _ I h) fun u s1 ⟨x, H1, I1, r1, q1⟩ => ?_)
  exact thn (hr pos pins s1 σ H1 _ I1 q1) fun us s2 ⟨xs, H2, I2, r2, q2⟩ => ⟨x :: xs, H2, I2, .cons r1 r2, q2⟩

/-- a tuple, a list of written items -/
def tTup (t : TA) : TE := fun σ H Q => t σ H fun xs H1 => xs.length ≤ sizeLine ∧ ∀ p, H1 p = none → Q (.ref p) (upd H1 p (.tup xs))
def tLst (t : TA) : TE := fun σ H Q => t σ H fun xs H1 => xs.length ≤ sizeLine ∧ ∀ p, H1 p = none → Q (.ref p) (upd H1 p (.lst xs))
theorem pe_tup {x1} (h : PA X es t) : PE X (.Tuple es x1 pos) (tTup t) := by
  intro pins s σ H Q I hq
  refine wpAny_Tuple_spliced (thn (h pos pins s σ H _ I hq) fun us s1 ⟨xs, H1, I1, r, z, q⟩ => ⟨by rw [← r.length]; exact z, ?_⟩)
  have hf : H1 s1.heap.objs.size = none := I1.hok.fresh (Nat.le_refl _)
  refine ⟨.ref s1.heap.objs.size, upd H1 s1.heap.objs.size (.tup xs), I1.laid (t' := s1.toks) (fun b u e => Heap.get?_push_of_some _ e) (Nat.le_refl _) ?_, rfl, q _ hf⟩
  exact ⟨z, us, r, ⟨_, Heap.get?_push_size _ rfl, rfl, _, rfl⟩⟩
theorem pe_lst (h : PA X es t) : PE X (.List es pos) (tLst t) := by
  intro pins s σ H Q I hq
  refine wpAny_List_spliced (thn (h pos pins s σ H _ I hq) fun us s1 ⟨xs, H1, I1, r, z, q⟩ => ⟨by rw [← r.length]; exact z, ?_⟩)
  have hf : H1 s1.heap.objs.size = none := I1.hok.fresh (Nat.le_refl _)
  refine ⟨.ref s1.heap.objs.size, upd H1 s1.heap.objs.size (.lst xs), I1.laid (t' := s1.toks) (fun b u e => Heap.get?_push_of_some _ e) (Nat.le_refl _) ?_, rfl, q _ hf⟩
  exact ⟨z, us, 0, r, Heap.get?_push_size _ rfl⟩
end

/-! ### what a def promises -/
/-- a def's promise: the bound arguments in the parameters' order, the heap, the wanted end, the wanted exception -/
abbrev Sp := List V → Hp → VK → XK → Prop
/-- how an exception lies behind a call (file 08 gives it): the callers' frames, abstract heap and state ahead of the call, the wish, the exception, the state -/
abbrev CXT := List Env → Hp → Shared → XK → Value → Shared → Prop

/-- the state at a call -/
structure Env0 (P : Program) (w : World) (K : PySem.W.Frag) (mg : Str → Option Value) (base : Heap) (A : Around) (outer : List Env) (s : Shared) (H : Hp) : Prop where
  frames : A.frames = some outer
  mod : Mod K mg base
  bs : ∀ b o, base.get? b = some o → s.heap.get? b = some o ∧ H b = none
  bsz : base.objs.size ≤ s.heap.objs.size
  funs : s.heap.FunFrames base outer
  frf : ∀ b ∈ frs outer, H b = none
  hok : HOk P w H s.heap
  bare : AllBare s.gens
/-- a call's end -/
def CE (outer : List Env) (P : Program) (w : World) (H : Hp) (s : Shared) (Q : VK) (u : Value) (s' : Shared) : Prop :=
  ∃ v H', s'.os = s.os ∧ AllBare s'.gens ∧ Un (frs outer) [] H H' s.heap s'.heap ∧ HOk P w H' s'.heap ∧ RelV v u ∧ Q v H'
def CR (CX : CXT) (outer : List Env) (P : Program) (w : World) (H : Hp) (s : Shared) (Q : VK) (E : XK) (r : Result) (s' : Shared) : Prop :=
  match r with
  | .ok (.ret u) => CE outer P w H s Q u s'
  | .ok _ => False
  | .error e => CX outer H s E e s'
structure FnOk (P : Program) (w : World) (K : PySem.W.Frag) (mg : Str → Option Value) (base : Heap) (CX : CXT) (k : Nat) (f : Addr) (fd : FuncData) (ps : List Str) (sp : Sp) : Prop where
  len : ∀ vs H Q E, sp vs H Q E → vs.length = ps.length
  run : ∀ (A : Around) (outer : List Env) (s : Shared) (H : Hp) (args : Args) (us : List Value) (vs : List V) (Q : VK) (E : XK), Room k A → Env0 P w K mg base A outer s H → BindsTo s fd args (ps.zip us) → Vals vs us → sp vs H Q E →
    codeAny (model P w) A (.call (.ref f) args) (CR CX outer P w H s Q E) s
section
variable {X : Cx} {pins : List (Addr × Obj)} {σ : St} {H : Hp} {s s' : Shared}
/-- from a body: what a callee wants -/
theorem Inv.env0 (I : Inv X pins σ H s) : Env0 X.prog X.w X.K X.mg X.base X.A X.stack s H :=
  ⟨I.ok.frames, I.ok.mod, I.bs, Nat.le_trans I.ok.bsz I.sz, I.stack, I.stkFree, I.hok, I.bare⟩
/-- behind a call -/
theorem Inv.after {Q : VK} {u : Value} (I : Inv X pins σ H s) (h : CE X.stack X.prog X.w H s Q u s') : EP X pins σ Q u s' := by
  obtain ⟨v, H', os, bare, un, hok, r, q⟩ := h
  obtain ⟨hh, g, d, t, os'⟩ := s'
  obtain rfl : os' = s.os := os
  exact ⟨v, H', I.call (h' := hh) (g' := g) (d' := d) (t' := t) (ch := []) un hok bare (fun b z => absurd z (by simp)), r, q⟩
end

/-! ### calls -/
/-- f(..): the written arguments, then the defaults dvs; E: what is wanted of an exception -/
def tCall (sp : Sp) (dvs : List V) (E : XK) (t : TA) : TE := fun σ H Q => t σ H fun vs H1 => sp (vs ++ dvs) H1 Q E
/-- how the parameters are bound: us the positional arguments, kw the keywords' values by name, ds the defaults that fill up -/
def Binds (K : PySem.W.Frag) (fd : FuncData) (ps : List Str) (ds : List Value) : Prop :=
  ∀ (s : Shared) (us : List Value), K.In s.heap → (us ++ ds).length = ps.length → BindsTo s fd ⟨us, []⟩ (ps.zip (us ++ ds))
/-- every parameter is given -/
theorem Binds.all {K : PySem.W.Frag} {fd : FuncData} {ps : List Str} (h : ∀ us : List Value, us.length = ps.length → bindArgs fd ⟨us, []⟩ = pure (ps.zip us)) : Binds K fd ps [] := fun s us _ hl => by
  rw [List.append_nil] at hl ⊢
  exact .of_eq (h us hl)

/-- an exception of a callee reaches what this body wants of exceptions -/
def Passes (CX : CXT) (X : Cx) (E : XK) : Prop := ∀ (pins : List (Addr × Obj)) (σ : St) (H : Hp) (s : Shared) (e : Value) (s' : Shared), Inv X pins σ H s → CX X.stack H s E e s' → X.xe e s'

section
variable {X : Cx} {CX : CXT} {k : Nat} {f C : Addr} {fd : FuncData} {ps : List Str} {sp : Sp} {dvs : List V} {ds : List Value} {E : XK} {x m : Str} {p pos apos : Pos} {e o : Expr} {es : List Expr} {ta : TE} {t : TA}

/-- the callee runs -/
theorem run_fn {pins : List (Addr × Obj)} {σ : St} {H : Hp} {s : Shared} {Q : VK} {us : List Value} {vs : List V} (F : FnOk X.prog X.w X.K X.mg X.base CX k f fd ps sp) (hr : Room k X.A) (hb : Binds X.K fd ps ds) (hd : Vals dvs ds) (hx : Passes CX X E)
    (I : Inv X pins σ H s) (r : Vals vs us) (h : sp (vs ++ dvs) H Q E) : wpAny (model X.prog X.w) X.A (call (.ref f) us) (EP X pins σ Q) X.xe s := by
  have r2 : Vals (vs ++ dvs) (us ++ ds) := r.append hd
  have hl : (us ++ ds).length = ps.length := by rw [← r2.length]; exact F.len _ _ _ _ h
  refine wpAny_call (codeAny_mono (F.run X.A X.stack s H ⟨us, []⟩ (us ++ ds) (vs ++ dvs) Q E hr I.env0 (hb s us I.kIn hl) r2 h) fun r s' hq => ?_)
  cases r with
  | error e => exact hx pins σ H s e s' I hq
  | ok fl =>
    cases fl with
    | ret u => exact I.after hq
    | next => exact False.elim hq
    | brk => exact False.elim hq
    | cont => exact False.elim hq

theorem pe_call (F : FnOk X.prog X.w X.K X.mg X.base CX k f fd ps sp) (hr : Room k X.A) (hg : Gl X x) (hm : X.mg x = some (.ref f)) (hk : PySem.W.keepIn X.K (.ref f) = true) (hb : Binds X.K fd ps ds) (hd : Vals dvs ds) (hx : Passes CX X E)
    (ha : PA X (e :: es) t) (hdb : (x == ("__debug__" : Str)) = false := by decide) (he : starEach (e :: es) X.env = (false, eval e X.env) :: starEach es X.env := by rfl) (hpl : (backTo pos (starEach es X.env)).any (·.1) = false := by rfl) :
    PE X (.Call (.Name x p) (e :: es) [] pos) (tCall sp dvs E t) := by
  intro pins s σ H Q I h
  refine wpAny_Call_Name_kw (ld_glob I hg hm ?_ hdb)
  refine PySem.W.callWith_K (h₀ := X.base) I.ok.mod.kin hk (thn (ha pos pins s σ H _ I h) fun us s1 ⟨vs, H1, I1, r, q⟩ => ⟨I1.kIn, ?_⟩) he hpl
  exact run_fn F hr hb hd hx I1 r q
theorem pe_call0 (F : FnOk X.prog X.w X.K X.mg X.base CX k f fd ps sp) (hr : Room k X.A) (hg : Gl X x) (hm : X.mg x = some (.ref f)) (hk : PySem.W.keepIn X.K (.ref f) = true) (hb : Binds X.K fd ps ds) (hd : Vals dvs ds) (hx : Passes CX X E)
    (hdb : (x == ("__debug__" : Str)) = false := by decide) : PE X (.Call (.Name x p) [] [] pos) (tCall sp dvs E tNil) := by
  intro pins s σ H Q I h
  refine wpAny_Call_Name_kw (ld_glob I hg hm ?_ hdb)
  exact PySem.W.callWith_K0 I.kIn hk (run_fn (us := []) F hr hb hd hx I .nil h)

end

/-! ### keywords -/
section
variable {X : Cx} {CX : CXT} {k : Nat} {f C : Addr} {fd : FuncData} {ps ks : List Str} {sp : Sp} {E : XK} {x m : Str} {p pos apos kpos : Pos} {e o : Expr} {es : List Expr} {kws : List Keyword} {te ta : TE} {t tk : TA} {nm : Option Str}
variable {g : List Value → List Value → List Value} {gV : List V → List V → List V}
end

/-! ### a def's body keeps its promise -/
/-- names: the parameters first -/
structure FnScope (N P : List Str) (sc : Scope) : Prop where
  kind : sc.kind = .function
  co : sc.isCoroutine = false
  gen : sc.isGenerator = false
  nd : N.Nodup
  pre : N.take P.length = P
  par : ∀ x ∈ P, sc.names.lookup x = some .local ∨ sc.names.lookup x = some .cell
  nofree : ∀ y ∈ sc.names, y.2 ≠ .free

theorem bindL_out {kindOf : Str → Option NameKind} {x : Str} : ∀ {binds : List (Str × Value)} {m : Str → Option Value}, (∀ v, (x, v) ∉ binds) → bindL kindOf binds m x = m x
  | [], _, _ => rfl
  | (n, v) :: r, m, h => by
    unfold bindL
    rw [bindL_out fun w hw => h w (List.mem_cons_of_mem _ hw)]
    split
    · have : x ≠ n := by rintro rfl; exact h v List.mem_cons_self
      simp [this]
    · rfl
theorem bindC_out {kindOf : Str → Option NameKind} {x : Str} : ∀ {binds : List (Str × Value)} {m : Str → Option Value}, (∀ v, (x, v) ∉ binds) → bindC kindOf binds m x = m x
  | [], _, _ => rfl
  | (n, v) :: r, m, h => by
    unfold bindC
    rw [bindC_out fun w hw => h w (List.mem_cons_of_mem _ hw)]
    split
    · rfl
    · have : x ≠ n := by rintro rfl; exact h v List.mem_cons_self
      simp [this]
theorem bindL_get {kindOf : Str → Option NameKind} {x : Str} {v : Value} : ∀ {P : List Str} {vs : List Value} {i : Nat} {m : Str → Option Value}, P.Nodup → P[i]? = some x → vs[i]? = some v → kindOf x = some .local →
    bindL kindOf (P.zip vs) m x = some v
  | [], _, _, _, _, h, _, _ => by simp at h
  | _ :: _, [], _, _, _, _, h, _ => by simp at h
  | p :: P, w :: vs, 0, m, nd, h1, h2, hk => by
    simp at h1 h2; subst h1; subst h2
    show bindL kindOf ((p, w) :: P.zip vs) m p = _
    unfold bindL
    rw [bindL_out fun v hv => (List.nodup_cons.mp nd).1 (List.of_mem_zip hv).1, if_pos hk]
    simp
  | p :: P, w :: vs, i + 1, m, nd, h1, h2, hk => by
    show bindL kindOf ((p, w) :: P.zip vs) m x = _
    unfold bindL
    exact bindL_get (i := i) (List.nodup_cons.mp nd).2 (by simpa using h1) (by simpa using h2) hk
theorem bindC_get {kindOf : Str → Option NameKind} {x : Str} {v : Value} : ∀ {P : List Str} {vs : List Value} {i : Nat} {m : Str → Option Value}, P.Nodup → P[i]? = some x → vs[i]? = some v → kindOf x ≠ some .local →
    bindC kindOf (P.zip vs) m x = some v
  | [], _, _, _, _, h, _, _ => by simp at h
  | _ :: _, [], _, _, _, _, h, _ => by simp at h
  | p :: P, w :: vs, 0, m, nd, h1, h2, hk => by
    simp at h1 h2; subst h1; subst h2
    show bindC kindOf ((p, w) :: P.zip vs) m p = _
    unfold bindC
    rw [bindC_out fun v hv => (List.nodup_cons.mp nd).1 (List.of_mem_zip hv).1, if_neg hk]
    simp
  | p :: P, w :: vs, i + 1, m, nd, h1, h2, hk => by
    show bindC kindOf ((p, w) :: P.zip vs) m x = _
    unfold bindC
    exact bindC_get (i := i) (List.nodup_cons.mp nd).2 (by simpa using h1) (by simpa using h2) hk

/-- the names' values at the entry -/
def start (N : List Str) (vs : List V) : St := vs.map some ++ List.replicate (N.length - vs.length) none

/-- the context of a def's body, at its entry; an exception leaves the frame, then lies as CX says -/
def cxOf (CX : CXT) (P : Program) (w : World) (K : PySem.W.Frag) (mg : Str → Option Value) (base : Heap) (N : List Str) (qual : Str) (scope : Scope) (f : Addr) (cd : Value) (A : Around) (outer : List Env) (s : Shared) (H : Hp) (E : XK) : Cx where
  prog := P
  w := w
  K := K
  mg := mg
  base := base
  A := A.deeper (envOfC qual scope s.heap.objs.size f cd)
  N := N
  s₀ := s
  H₀ := H
  env := envOfC qual scope s.heap.objs.size f cd
  outer := outer
  stack := envOfC qual scope s.heap.objs.size f cd :: outer
  ex := []
  calm := true
  fn := fun _ => true
  pn := []
  xe := fun e s' => wpAny (model P w) (A.deeper (envOfC qual scope s.heap.objs.size f cd)) (leaving (envOfC qual scope s.heap.objs.size f cd) e) (fun _ s'' => CX outer H s E e s'') (fun e' s'' => CX outer H s E e' s'') s'

theorem cell_has {sc : Scope} {n : Nat} {x : Str} (h : sc.names.lookup x = some .cell) : ∃ c, (cellsFrom n sc.names []).lookup x = some c := by
  have q := PySem.W.cellsFrom_some sc.names n [] (.inl h)
  exact Option.isSome_iff_exists.mp q

theorem inv_start {CX : CXT} {P : Program} {w : World} {K : PySem.W.Frag} {mg : Str → Option Value} {base : Heap} {N ps : List Str} {qual : Str} {scope : Scope} {f : Addr} {cd : Value} {A : Around} {outer : List Env} {s s1 : Shared} {H : Hp} {E : XK} {us : List Value} {vs : List V}
    (S : FnScope N ps scope) (hd : A.handled = none) (e0 : Env0 P w K mg base A outer s H) (hl : vs.length = ps.length) (r : Vals vs us)
    (x : InCallC s s.heap.objs.size (bindL (envOfC qual scope s.heap.objs.size f cd).kindOf (ps.zip us) fun _ => none) (cellsFrom (s.heap.objs.size + 1) scope.names []) (bindC (envOfC qual scope s.heap.objs.size f cd).kindOf (ps.zip us) fun _ => none) s1) :
    Inv (cxOf CX P w K mg base N qual scope f cd A outer s H E) [] (start N vs) H s1 := by
  have hpl : ps.length ≤ N.length := by have := congrArg List.length S.pre; rw [List.length_take] at this; omega
  obtain ⟨h1, tk, rfl, hk⟩ := x.done
  have noA : ∀ b : Addr, b ∉ (cxOf CX P w K mg base N qual scope f cd A outer s H E).ex := fun b z => absurd (show b ∈ ([] : List Addr) from z) (by simp)
  refine ⟨⟨e0.mod, S.kind, rfl, rfl, Nat.le_refl _, fun y z c h1 h2 => ?_, fun y hy => ?_, fun y c _ h => ?_, fun _ => hd, Around.frames_deeper e0.frames, .inr ⟨rfl, rfl⟩, fun b z => absurd z (noA b), e0.bs, e0.bsz, fun b _ _ => noA b, fun b z => absurd z (noA b), e0.funs, e0.frf⟩,
    rfl, e0.bare, Un.kept hk, ⟨_, x.toInCall.ns, fun i y v h1 h2 h3 => ?_⟩, fun y c h => ⟨_, x.cell y c h⟩, e0.hok.fresh (Nat.le_refl _), fun y c h => ?_, fun p hp => absurd (show p ∈ ([] : List (Addr × Obj)) from hp) (by simp), e0.hok.kept hk, ?_⟩
  · exact name_of_addr x.apart (PySem.mem_of_lookup h1) (PySem.mem_of_lookup h2)
  · have hy : scope.names.lookup y = some .cell ∨ scope.names.lookup y = some .free := hy
    rcases hy with hy | hy
    · exact cell_has hy
    · exact absurd rfl (S.nofree _ (PySem.mem_of_lookup hy))
  · exact Nat.le_of_lt (x.above y c (PySem.mem_of_lookup h))
  · have hi : i < vs.length := by
      unfold start at h2
      by_cases hi : i < vs.length
      · exact hi
      · rw [List.getElem?_append_right (by simpa using hi)] at h2
        rw [List.getElem?_replicate] at h2
        split at h2 <;> cases h2
    have ha : vs[i]? = some v := by
      unfold start at h2
      rw [List.getElem?_append_left (by simpa using hi), List.getElem?_map] at h2
      cases e : vs[i]? with
      | none => rw [e] at h2; cases h2
      | some a => rw [e] at h2; cases h2; rfl
    obtain ⟨u, hu, rv⟩ := r.get ha
    have hp : ps[i]? = some y := by
      rw [← S.pre, List.getElem?_take_of_lt (by omega)]; exact h1
    have ndP : ps.Nodup := by rw [← S.pre]; exact S.nd.sublist (List.take_sublist _ _)
    refine ⟨u, rv, ?_⟩
    rcases S.par y (List.mem_of_getElem? hp) with k | k
    · exact .inl ⟨k, bindL_get ndP hp hu k⟩
    · obtain ⟨c, e⟩ := cell_has (n := s.heap.objs.size + 1) k
      refine .inr ⟨.inl k, c, e, ?_⟩
      have q := x.cell y c e
      rw [bindC_get ndP hp hu (by show scope.names.lookup y ≠ _; rw [k]; decide)] at q
      exact q
  · exact e0.hok.fresh (Nat.le_of_lt (x.above y c (PySem.mem_of_lookup h)))
  · unfold start
    show _ = N.length
    rw [List.length_append, List.length_map, List.length_replicate]
    omega

/-- THE RULE: a def (or a method) of the text, by its body. The body's reading t is chosen for each entry; it is run at the parameters' values -/
theorem fn_of {CX : CXT} {P : Program} {w : World} {K : PySem.W.Frag} {mg : Str → Option Value} {base : Heap} {k : Nat} {f : Addr} {name qual : Str} {params : Arguments} {body : List Stmt} {scope : Scope} {dV kV doc pm cdv ct oc : Value} {an od : Option Addr}
    {osl : Array (Option Value)} {N ps : List Str} {sp : Sp} (lk : K.lookup f = some ⟨oc, od, .func (PySem.W.fnOf name qual params body scope dV kV doc pm an cdv ct), osl⟩) (hcd : PySem.W.codeIn K cdv qual = true) (S : FnScope N ps scope)
    (len : ∀ vs H Q E, sp vs H Q E → vs.length = ps.length)
    (hbody : ∀ (A : Around) (outer : List Env) (s : Shared) (H : Hp) (vs : List V) (Q : VK) (E : XK), Room k (A.deeper (envOfC qual scope s.heap.objs.size f cdv)) → sp vs H Q E →
      ∃ t, PSs (cxOf CX P w K mg base N qual scope f cdv A outer s H E) body t ∧ t { nx := fun _ H' => Q .non H', rt := Q } (start N vs) H) :
    FnOk P w K mg base CX (k + 1) f (PySem.W.fnOf name qual params body scope dV kV doc pm an cdv ct) ps sp := by
  refine ⟨len, fun A outer s H args us vs Q E hr e0 hb r hsp => ?_⟩
  have hl := len _ _ _ _ hsp
  have KX : K.In s.heap := e0.mod.kin.keeps fun b o e => (e0.bs b o e).1
  have lim : s.heap.NoLimit := e0.mod.nolimit.keeps fun b o e => (e0.bs b o e).1
  have hkind : ∀ y ∈ ps.zip us, scope.names.lookup y.1 = some .local ∨ (scope.names.lookup y.1 = some .cell ∧ ((cellsFrom (s.heap.objs.size + 1) scope.names []).lookup y.1).isSome = true) := fun ⟨n, v⟩ hy => by
    rcases S.par n (List.of_mem_zip hy).1 with q | q
    · exact .inl q
    · exact .inr ⟨q, PySem.W.cellsFrom_some _ _ _ (.inl q)⟩
  refine codeAny_call_function hr.depth (KX _ _ lk) rfl S.co S.gen rfl (PySem.W.codeRec_of KX hcd) (hb _ _ _ _ ?_)
  refine wpAny_newFunctionEnv_cells S.kind hkind fun env he s1 x => ?_
  subst he
  refine ⟨lim.keeps x.toInCall.keep, codeAny_func ?_⟩
  obtain ⟨t, ht, hq⟩ := hbody A outer s H vs Q E (hr.deeper _) hsp
  have I : Inv (cxOf CX P w K mg base N qual scope f cdv A outer s H E) [] (start N vs) H s1 := inv_start S hr.hd e0 hl r x
  refine wpAny_mono (ht [] s1 (start N vs) H _ I hq) (fun fl s' hs => ?_) fun e s' hs => hs
  have fin : ∀ {σ' : St} {H' : Hp} {v : V} {u : Value}, Inv (cxOf CX P w K mg base N qual scope f cdv A outer s H E) [] σ' H' s' → RelV v u → Q v H' → CE outer P w H s Q u s' :=
    fun {σ' H' v u} J rv q => ⟨v, H', J.os, J.bare, J.base, J.hok, rv, q⟩
  cases fl with
  | ret u =>
    obtain ⟨v, σ', H', J, rv, q⟩ := hs
    exact fin J rv q
  | next =>
    obtain ⟨σ', H', J, q⟩ := hs
    exact fin (v := V.non) (u := Value.none) J rfl q
  | brk =>
    obtain ⟨_, _, _, q⟩ := hs
    exact False.elim q
  | cont =>
    obtain ⟨_, _, _, q⟩ := hs
    exact False.elim q
end L2

namespace L2
open PySem PySem.Spec PyProof.Rows
section
variable {X : Cx} {x : Str} {p pos : Pos} {e : Expr} {es : List Expr} {t : TA} {id T : String} {r : List V → Hp → VK → Prop}

def tCB (r : List V → Hp → VK → Prop) (t : TA) : TE := fun σ H Q => t σ H fun vs H1 => r vs H1 Q
/-- f(e, ..), f a built-in function -/
theorem pe_callB (hc : CallR X (.builtin id) r) (hg : Gl X x) (hm : X.mg x = none) (hv : bootBuiltins x = some (.builtin id)) (ha : PA X (e :: es) t) (hn : x ≠ "__name__" := by decide) (hdb : (x == ("__debug__" : Str)) = false := by decide)
    (he : starEach (e :: es) X.env = (false, eval e X.env) :: starEach es X.env := by rfl) (hpl : (backTo pos (starEach es X.env)).any (·.1) = false := by rfl) : PE X (.Call (.Name x p) (e :: es) [] pos) (tCB r t) := by
  intro pins s σ H Q I h
  refine wpAny_Call_Name_kw (ld_blt I hg hm hv ?_ hn hdb)
  exact PyProof.Rows.callWith_builtin1 (thn (ha pos pins s σ H _ I h) fun us s1 ⟨vs, H1, I1, r1, q1⟩ => hc pins s1 σ H1 vs us Q I1 r1 q1) he hpl
/-- T(e, ..), T a built-in type -/
theorem pe_callTy (hc : CallR X (.type T) r) (hg : Gl X x) (hm : X.mg x = none) (hv : bootBuiltins x = some (.type T)) (ha : PA X (e :: es) t) (hn : x ≠ "__name__" := by decide) (hdb : (x == ("__debug__" : Str)) = false := by decide)
    (he : starEach (e :: es) X.env = (false, eval e X.env) :: starEach es X.env := by rfl) (hpl : (backTo pos (starEach es X.env)).any (·.1) = false := by rfl) : PE X (.Call (.Name x p) (e :: es) [] pos) (tCB r t) := by
  intro pins s σ H Q I h
  refine wpAny_Call_Name_kw (ld_blt I hg hm hv ?_ hn hdb)
  exact PyProof.Rows.callWith_type1 (thn (ha pos pins s σ H _ I h) fun us s1 ⟨vs, H1, I1, r1, q1⟩ => hc pins s1 σ H1 vs us Q I1 r1 q1) he hpl
end
end L2

namespace HT
open PySem PyProof.Rows

section
open PySem.SeqAt
open PySem.AutoSeq1 (wpAny_loadPart')
open PySem.MeetsSeq PySem.MeetsSeq2 PySem.MeetsSeq3

end

section
variable {prog : Program} {w : World} {A : Around} {E : Value → Shared → Prop} {s : Shared}

/-- t + u, t not empty -/
theorem cat_tup {t b : Addr} {vs ws : List Value} {Q : Value → Shared → Prop} (ht : IsTup s.heap t vs.toArray) (hb : IsTup s.heap b ws.toArray) (hv : vs ≠ [])
    (h1 : ws = [] → Q (.ref t) s) (h2 : ws ≠ [] → Q (.ref s.heap.objs.size) { s with heap := s.heap.push { cls := .type "tuple", data := .seq (vs ++ ws).toArray } })
    (hsz : vs.length + ws.length ≤ sizeLine) : wpAny (model prog w) A (binaryOp .Add (.ref t) (.ref b)) Q E s := by
  obtain ⟨⟨cls, dd, data, sl⟩, ho, hc, n, hd⟩ := id ht
  obtain ⟨⟨cls2, dd2, data2, sl2⟩, ho2, hc2, n2, hd2⟩ := id hb
  simp only at hc hd hc2 hd2
  subst hc hd hc2 hd2
  have e : vs.toArray ++ ws.toArray = (vs ++ ws).toArray := by simp
  by_cases hw : ws = []
  · exact concat_meets ⟨_, ho, rfl⟩ ⟨_, ho2, rfl⟩ noFill_tuple_add seq_tuple_add PySem.F.slot_tuple_add PySem.F.entry_tuple_add (PySem.F.args_tuple_add_2 _ _)
      (tuple_addW1 t b vs.toArray ws.toArray n n2 dd dd2 sl sl2 (by simpa using hv) (by simp [hw])) ⟨ho, ho2, h1 hw⟩
  · refine concat_meets ⟨_, ho, rfl⟩ ⟨_, ho2, rfl⟩ noFill_tuple_add seq_tuple_add PySem.F.slot_tuple_add PySem.F.entry_tuple_add (PySem.F.args_tuple_add_2 _ _)
      (tuple_addW2 t b vs.toArray ws.toArray n n2 dd dd2 sl sl2 (by simpa using hv) (by simpa using hw) (by rw [List.size_toArray, List.size_toArray]; exact hsz)) ⟨ho, ho2, ?_⟩
    rw [e]
    exact h2 hw

/-! ### t[a:b], not the whole -/
/-- a slice's bound as a place among n (d where it is left out) -/
def sIx (n d : Nat) : Option Int → Nat
  | none => d
  | some v => if v < 0 then (v + (n : Int)).toNat else min v.toNat n
theorem sIx_none (n d : Nat) : sIx n d none = d := rfl
theorem sIx_nat (n d k : Nat) : sIx n d (some (k : Int)) = min k n := by
  show (if (k : Int) < 0 then ((k : Int) + (n : Int)).toNat else min (k : Int).toNat n) = min k n
  rw [if_neg (by omega), Int.toNat_natCast]
end
end HT

namespace L2
open PySem PySem.Spec PyProof.Rows

/-! ### the parts of a slice -/
abbrev TO := St → Hp → (Option Int → Hp → Prop) → Prop
/-- a slice's part (left out, or an int) -/
def PO (X : Cx) (e : Option Expr) (t : TO) : Prop :=
  ∀ (pins : List (Addr × Obj)) (s : Shared) (σ : St) (H : Hp) (Q : Option Int → Hp → Prop), Inv X pins σ H s → t σ H Q →
    wpAny (model X.prog X.w) X.A (evalPart e X.env) (fun u s' => ∃ o H', Inv X pins σ H' s' ∧ IsPart u o ∧ Q o H') X.xe s
def tNoPart : TO := fun _ H Q => Q none H
def tPart (t : TE) : TO := fun σ H Q => t σ H fun x H1 => ∃ i, x = .int i ∧ Q (some i) H1

section
variable {X : Cx} {e : Expr} {te : TE} {lo hi : Option Expr} {tl th : TO} {pos p2 : Pos}

theorem po_none : PO X none tNoPart := by
  intro pins s σ H Q I h
  rw [evalPart_none]
  exact wpAny_pure ⟨none, H, I, .none, h⟩
theorem po_some (h : PE X e te) : PO X (some e) (tPart te) := by
  intro pins s σ H Q I hw
  rw [evalPart_some]
  refine thn (h pins s σ H _ I hw) fun u s1 ⟨x, H1, I1, r1, q1⟩ => ?_
  obtain ⟨i, rfl, q⟩ := q1
  obtain ⟨t, rfl⟩ := r1
  exact ⟨some i, H1, I1, .int i t, q⟩

/-- what a slice of a value is, by values: the slice object stands at sl -/
def SlR (X : Cx) (r : V → Option Int → Option Int → Hp → VK → Prop) : Prop :=
  ∀ (pins : List (Addr × Obj)) (s : Shared) (σ : St) (H : Hp) (x : V) (v vl vu : Value) (lo hi : Option Int) (sl : Addr) (Q : VK), Inv X pins σ H s → RelV x v → s.heap.IsSliceOf sl vl vu .none → IsPart vl lo → IsPart vu hi → r x lo hi H Q →
    ∃ T id, typeLookup (.type T) "__getitem__" = pure (some (.builtin id)) ∧ s.TypeIs v T ∧ wpAny (model X.prog X.w) X.A (getItem v (.ref sl)) (EP X pins σ Q) X.xe s
def tSl (r : V → Option Int → Option Int → Hp → VK → Prop) (te : TE) (tl th : TO) : TE := fun σ H Q => te σ H fun x H1 => tl σ H1 fun l H2 => th σ H2 fun u H3 => r x l u H3 Q
/-- a[lo:hi], any a -/
theorem pe_slice {r : V → Option Int → Option Int → Hp → VK → Prop} (hr : SlR X r) (he : PE X e te) (hl : PO X lo tl) (hu : PO X hi th) : PE X (.Subscript e (.Slice lo hi none p2) pos) (tSl r te tl th) := by
  intro pins s σ H Q I h
  refine Subscript_ (thn (he pins s σ H _ I h) fun v s1 ⟨x, H1, I1, r1, q1⟩ => ?_)
  refine wpAny_Slice (thn (hl pins s1 σ H1 _ I1 q1) fun vl s2 ⟨l, H2, I2, pl, q2⟩ => thn (hu pins s2 σ H2 _ I2 q2) fun vu s3 ⟨u, H3, I3, pu, q3⟩ => ?_)
  rw [evalPart_none]
  refine wpAny_pure ?_
  have I4 : Inv X pins σ H3 { s3 with heap := s3.heap.push { cls := .type "slice", data := .fields #[vl, vu, .none] } } := I3.kept (t' := s3.toks) fun b ob q => Heap.get?_push_of_some _ q
  obtain ⟨T, id, hT, ht, hg⟩ := hr pins { s3 with heap := s3.heap.push { cls := .type "slice", data := .fields #[vl, vu, .none] } } σ H3 x v vl vu l u s3.heap.objs.size Q I4 r1 (Heap.IsSliceOf.new ..) pl pu q3
  show wpAny (model X.prog X.w) X.A (subscriptTail e (.Slice lo hi none p2) v (.ref s3.heap.objs.size)) (EP X pins σ Q) X.xe { s3 with heap := s3.heap.push { cls := .type "slice", data := .fields #[vl, vu, .none] } }
  exact tail_any (ops := [.ref s3.heap.objs.size, v]) ht hT hg (by with_unfolding_all rfl)

/-- the items of xs[lo:hi] -/
def cutV (xs : List V) (lo hi : Option Int) : List V := (xs.drop (HT.sIx xs.length 0 lo)).take (HT.sIx xs.length xs.length hi - HT.sIx xs.length 0 lo)
theorem cutV_length (xs : List V) (lo hi : Option Int) : (cutV xs lo hi).length ≤ xs.length := by
  unfold cutV
  rw [List.length_take, List.length_drop]
  omega
/-! ### t < u, t + u -/
theorem Vals.nil_iff {xs : List V} {us : List Value} (r : Vals xs us) : us = [] ↔ xs = [] := by
  cases r with
  | nil => simp
  | cons _ _ => simp
end
end L2

namespace L2
open PySem PySem.Spec PyProof.Rows

/-! ### places -/
/-- the place that an index of any sign means -/
def ixN (n : Nat) (i : Int) : Option Nat := if 0 ≤ i then (if i < n then some i.toNat else none) else if -(n : Int) ≤ i then some (i + n).toNat else none
def atI {α : Type} (xs : List α) (i : Int) : Option α := (ixN xs.length i).bind fun j => xs[j]?
theorem ixN_seq {n : Nat} {i : Int} {j : Nat} (h : ixN n i = some j) : seqIndex? i n = some j ∧ j < n ∧ -(n : Int) ≤ i ∧ i < n := by
  unfold ixN at h
  by_cases h0 : 0 ≤ i
  · rw [if_pos h0] at h
    by_cases h1 : i < n
    · rw [if_pos h1] at h
      have e : i.toNat = j := Option.some.inj h
      exact ⟨by rw [seqIndex_of h0 h1, e], by omega, by omega, h1⟩
    · rw [if_neg h1] at h; cases h
  · rw [if_neg h0] at h
    by_cases h1 : -(n : Int) ≤ i
    · rw [if_pos h1] at h
      have e : (i + n).toNat = j := Option.some.inj h
      exact ⟨by rw [seqIndex_neg (by omega) h1, e], by omega, h1, by omega⟩
    · rw [if_neg h1] at h; cases h
theorem atI_get {α : Type} {xs : List α} {i : Int} {v : α} (h : atI xs i = some v) : ∃ j, seqIndex? i xs.length = some j ∧ xs[j]? = some v ∧ j < xs.length ∧ -(xs.length : Int) ≤ i ∧ i < xs.length := by
  unfold atI at h
  cases e : ixN xs.length i with
  | none => rw [e] at h; cases h
  | some j =>
    rw [e] at h
    obtain ⟨h1, h2, h3, h4⟩ := ixN_seq e
    exact ⟨j, h1, h, h2, h3, h4⟩
theorem atI_nat {α : Type} {xs : List α} {j : Nat} {v : α} (h : xs[j]? = some v) : atI xs (j : Int) = some v := by
  have hj : j < xs.length := (List.getElem?_eq_some_iff.mp h).1
  have e : ixN xs.length (j : Int) = some j := by
    unfold ixN
    rw [if_pos (by omega), if_pos (by omega)]; simp
  unfold atI; rw [e]; exact h
theorem atI_last {α : Type} (xs : List α) (v : α) : atI (xs ++ [v]) (-1) = some v := by
  have hl : (xs ++ [v]).length = xs.length + 1 := by simp
  have e : ixN (xs ++ [v]).length (-1) = some xs.length := by
    unfold ixN
    rw [hl, if_neg (by decide), if_pos (by omega)]
    congr 1
    omega
  unfold atI
  rw [e]
  show (xs ++ [v])[xs.length]? = some v
  simp

/-! ### what may be subscripted -/
/-- what stands as an index of a plain subscript -/
def PlainIx (b : Expr) : Prop := ∀ o i, subscripted b false o i = operate [o, i] (getItem o i)
/-- a subscript by values -/
def IxR (X : Cx) (r : R2) : Prop :=
  ∀ (value slice : Expr) (pins : List (Addr × Obj)) (s : Shared) (σ : St) (H : Hp) (x y : V) (v u : Value) (Q : VK), Inv X pins σ H s → RelV x v → RelV y u → r x y H Q →
    subscripted slice false v u = operate [v, u] (getItem v u) → wpAny (model X.prog X.w) X.A (subscriptTail value slice v u) (EP X pins σ Q) X.xe s
/-- a call of a builtin's method by values: the receiver, the arguments -/
def MtR (X : Cx) (id : String) (r : V → List V → Hp → VK → Prop) : Prop :=
  ∀ (pins : List (Addr × Obj)) (s : Shared) (σ : St) (H : Hp) (x : V) (xs : List V) (v : Value) (us : List Value) (Q : VK), Inv X pins σ H s → RelV x v → Vals xs us → r x xs H Q →
    wpAny (model X.prog X.w) X.A (call (.builtin id) (v :: us)) (EP X pins σ Q) X.xe s
section
variable {X : Cx} {a b : Expr} {ta tb : TE} {pos : Pos}
/-- a[b] -/
theorem pe_ix {r : R2} (hr : IxR X r) (ha : PE X a ta) (hb : PE X b tb) (hs : PlainIx b) : PE X (.Subscript a b pos) (tOp r ta tb) := by
  intro pins s σ H Q I h
  exact Subscript_ (binT ha hb I h fun v u s2 x y H2 I2 rx ry q => hr a b pins s2 σ H2 x y v u Q I2 rx ry q (hs _ _))

def rIxL (K : PySem.W.Frag) : R2 := fun x y H Q => ∃ p xs i v, x = .ref p ∧ y = .int i ∧ SqL K H p xs ∧ atI xs i = some v ∧ Q v H
def rIxT (K : PySem.W.Frag) : R2 := fun x y H Q => ∃ p xs i v, x = .ref p ∧ y = .int i ∧ SqT K H p xs ∧ atI xs i = some v ∧ Q v H
def rIxS : R2 := fun x y H Q => ∃ z i c, x = .str z ∧ y = .int i ∧ z.length ≤ sizeLine ∧ atI z.cps.toList i = some c ∧ Q (.str ⟨#[c]⟩) H
theorem ix_list : IxR X (rIxL X.K) := by
  intro value slice pins s σ H x y v u Q I rx ry h hs
  obtain ⟨p, xs, i, z, rfl, rfl, hq, he, q⟩ := h
  cases rx
  obtain ⟨t, rfl⟩ := ry
  obtain ⟨its, r, pl, hz⟩ := I.list hq
  obtain ⟨j, h1, h2, h3, h4, h5⟩ := atI_get he
  obtain ⟨w, ew, rw'⟩ := r.get h2
  have hl := r.length
  have hn := line63
  have fin : EP X pins σ Q w s := ⟨z, H, I, rw', q⟩
  by_cases h0 : 0 ≤ i
  · have hj : i.toNat = j := by
      rw [seqIndex_of h0 h5] at h1
      exact Option.some.inj h1
    exact item_listR pl.isList h0 (by omega) (by rw [hj]; simpa using ew) fin hs
  · have hj : (i + (its.toArray.size : Int)).toNat = j := by
      rw [seqIndex_neg (by omega) h4] at h1
      rw [List.size_toArray, ← hl]
      exact Option.some.inj h1
    exact subscriptTail_builtinR (x := w) pl.isList.typeIs slot_list_getitem.lookup
      (wpAny_getItem_list_neg (Q := fun r s' => r = w ∧ EP X pins σ Q r s') pl.isList (by omega) (by rw [List.size_toArray] <;> omega) (by omega) (by rw [hj]; simpa using ew) ⟨rfl, fin⟩) hs
theorem ix_tup : IxR X (rIxT X.K) := by
  intro value slice pins s σ H x y v u Q I rx ry h hs
  obtain ⟨p, xs, i, z, rfl, rfl, hq, he, q⟩ := h
  cases rx
  obtain ⟨t, rfl⟩ := ry
  obtain ⟨its, r, pl, hz⟩ := I.tuple hq
  obtain ⟨j, h1, h2, h3, h4, h5⟩ := atI_get he
  obtain ⟨w, ew, rw'⟩ := r.get h2
  have hl := r.length
  have hn := line63
  have fin : EP X pins σ Q w s := ⟨z, H, I, rw', q⟩
  exact subscriptTail_builtinR (x := w) pl.typeIs slot_tuple_getitem.lookup
    (getItem_tuple (j := j) (Q := fun r s' => r = w ∧ EP X pins σ Q r s') pl (by omega) (by omega) (by rw [List.size_toArray, ← hl]; exact h1) (by simpa using ew) ⟨rfl, fin⟩) hs
theorem ix_str : IxR X rIxS := by
  intro value slice pins s σ H x y v u Q I rx ry h hs
  obtain ⟨z, i, c, rfl, rfl, hz, he, q⟩ := h
  obtain ⟨t, rfl⟩ := rx
  obtain ⟨t', rfl⟩ := ry
  obtain ⟨j, h1, h2, h3, h4, h5⟩ := atI_get he
  have hl : z.cps.toList.length = z.length := by simp [Str.length]
  rw [hl] at h1 h4 h5
  have hn := line63
  exact tail_any (typeIs_str s z t) slot_str_getitem.lookup (getItem_str (c := c) (by
    have e1 : decide (i < -(2 ^ 63 : Int)) = false := decide_eq_false (by omega)
    have e2 : decide (i ≥ 2 ^ 63) = false := decide_eq_false (by omega)
    rw [e1, e2, Bool.or_false]) (by rw [h1]; simpa using h2) ⟨.str ⟨#[c]⟩, H, I.tok _, ⟨_, rfl⟩, q⟩) hs
/-! ### xs[i] = v, any sign -/
/-- the list's object behind a store -/
theorem mapSeq_set (its : List Value) (n j : Nat) (u : Value) : Obj.mapSeq (·.setIfInBounds j u) { cls := .type "list", data := .seq its.toArray n } = { cls := .type "list", data := .seq (its.set j u).toArray n } := by
  simp [Obj.mapSeq]
theorem Inv.lst {pins : List (Addr × Obj)} {σ : St} {H : Hp} {s : Shared} {p : Addr} {xs : List V} (I : Inv X pins σ H s) (h : H p = some (.lst xs)) :
    ∃ (its : List Value) (n : Nat), Vals xs its ∧ s.heap.get? p = some { cls := .type "list", data := .seq its.toArray n } ∧ xs.length ≤ sizeLine := by
  obtain ⟨z, its, n, r, e⟩ := I.hok p _ h
  exact ⟨its, n, r, e, z⟩
/-- the list at p is written by an update of its object -/
theorem Inv.lstUpd {pins : List (Addr × Obj)} {σ : St} {H : Hp} {s : Shared} {p : Addr} {xs ys : List V} {its its' : List Value} {n n' : Nat} {f : Obj → Obj} (I : Inv X pins σ H s) (h : H p = some (.lst xs))
    (ho : s.heap.get? p = some { cls := .type "list", data := .seq its.toArray n }) (hf : f { cls := .type "list", data := .seq its.toArray n } = { cls := .type "list", data := .seq its'.toArray n' }) (r : Vals ys its') (hz : ys.length ≤ sizeLine) (t : Nat) :
    Inv X pins σ (upd H p (.lst ys)) { s with heap := s.heap.update p f, toks := t } := by
  have e : (s.heap.update p f).get? p = some { cls := .type "list", data := .seq its'.toArray n' } := by
    rw [Heap.get?_update_self f ho (by rw [hf] <;> rfl), hf]
  refine I.write (x := p) (e := p) (by rw [h]; trivial) (.inl rfl) (fun b u hb q => (Heap.get?_update_other _ _ (Ne.symm hb)).trans q) ⟨_, e⟩ ?_
  exact ⟨hz, its', n', r, e⟩
def rSetL : V → V → V → Hp → (Hp → Prop) → Prop := fun o i v H Q => ∃ p xs k j, o = .ref p ∧ i = .int k ∧ H p = some (.lst xs) ∧ ixN xs.length k = some j ∧ Q (upd H p (.lst (xs.set j v)))
theorem set_list : PSet X rSetL := by
  intro pins s σ H o i v ov iv u Q I ro ri rv h
  obtain ⟨p, xs, k, j, rfl, rfl, hp, hj, q⟩ := h
  cases ro
  obtain ⟨t, rfl⟩ := ri
  obtain ⟨its, n, r, ho, hz⟩ := I.lst hp
  obtain ⟨h1, h2, h3, h4⟩ := ixN_seq hj
  have hl := r.length
  have hn := line63
  have I' : Inv X pins σ (upd H p (.lst (xs.set j v))) { s with heap := s.heap.update p (Obj.mapSeq (·.setIfInBounds j u)) } :=
    I.lstUpd hp ho (mapSeq_set its n j u) (r.set rv j) (by rw [List.length_set]; exact hz) s.toks
  by_cases h0 : 0 ≤ k
  · have hk : k.toNat = j := by
      rw [seqIndex_of h0 h4] at h1
      exact Option.some.inj h1
    exact PySem.W.ki_setAt ho h0 (by omega) (by rw [List.size_toArray, ← hl]; exact h4) (by rw [hk]; exact ⟨_, I', q⟩)
  · have hk : (k + (its.toArray.size : Int)).toNat = j := by
      rw [seqIndex_neg (by omega) h3] at h1
      rw [List.size_toArray, ← hl]
      exact Option.some.inj h1
    exact PySem.W.ki_setBack ho (by omega) (by rw [List.size_toArray, ← hl]; exact h3) (by omega) (by rw [hk]; exact ⟨_, I', q⟩)

/-! ### slices -/
theorem slice_bounds (lo hi : Option Int) (n : Nat) : (sliceBounds lo hi none n).1 = ((HT.sIx n 0 lo : Nat) : Int) ∧ (sliceBounds lo hi none n).2.1 = ((HT.sIx n n hi : Nat) : Int) ∧ (sliceBounds lo hi none n).2.2 = 1 := by
  refine ⟨?_, ?_, rfl⟩
  · cases lo with
    | none => simp [sliceBounds, HT.sIx]
    | some i =>
      simp only [sliceBounds, HT.sIx, Option.getD_none, show (1 : Int) > 0 by decide, if_true]
      by_cases h : i < 0
      · simp only [h, if_true] <;> omega
      · simp only [h, if_false] <;> omega
  · cases hi with
    | none => simp [sliceBounds, HT.sIx]
    | some i =>
      simp only [sliceBounds, HT.sIx, Option.getD_none, show (1 : Int) > 0 by decide, if_true]
      by_cases h : i < 0
      · simp only [h, if_true] <;> omega
      · simp only [h, if_false] <;> omega
theorem slicePick_cut (its : List Value) (lo hi : Option Int) : slicePick its.toArray lo hi none = ((its.drop (HT.sIx its.length 0 lo)).take (HT.sIx its.length its.length hi - HT.sIx its.length 0 lo)).toArray := by
  obtain ⟨h1, h2, h3⟩ := slice_bounds lo hi its.toArray.size
  unfold slicePick
  rw [h1, h2, h3]
  simp only [sliceRange_one, pick_run, List.size_toArray] <;> rfl
/-- xs[lo:hi] of a list: a new list -/
def rSlL (K : PySem.W.Frag) : V → Option Int → Option Int → Hp → VK → Prop := fun x lo hi H Q => ∃ a xs, x = .ref a ∧ SqL K H a xs ∧ ∀ p, H p = none → Q (.ref p) (upd H p (.lst (cutV xs lo hi)))
theorem sl_list : SlR X (rSlL X.K) := by
  intro pins s σ H x v vl vu lo hi sl Q I rx hs pl pu h
  obtain ⟨a, xs, rfl, hx, q⟩ := h
  cases rx
  obtain ⟨its, r, ht, hz⟩ := I.list hx
  have hlen := r.length
  refine ⟨"list", _, slot_list_getitem.lookup, ht.isList.typeIs, ?_⟩
  refine wpAny_getItem_list_slice ht.isList hs pl pu .none (by simp) ?_ (by rw [List.size_toArray] <;> omega)
  rw [slicePick_cut, ← hlen]
  refine ⟨.ref s.heap.objs.size, _, I.laid (t' := s.toks) (o := .lst (cutV xs lo hi)) (fun b ob q => Heap.get?_push_of_some _ q) (Nat.le_refl _) ?_, rfl, q _ (I.hok.fresh (Nat.le_refl _))⟩
  exact ⟨Nat.le_trans (cutV_length xs lo hi) hz, _, 0, (r.drop (HT.sIx xs.length 0 lo)).take (HT.sIx xs.length xs.length hi - HT.sIx xs.length 0 lo), Heap.get?_push_size _ rfl⟩

/-! ### in, not in: flat items -/
def flatV : V → Bool
  | .non => true
  | .bl _ => true
  | .int _ => true
  | .str _ => true
  | _ => false
/-- == of flat values -/
def eqV : V → V → Bool
  | .non, .non => true
  | .bl a, .bl b => a == b
  | .bl a, .int b => (if a then 1 else 0) == b
  | .int a, .bl b => a == (if b then 1 else 0)
  | .int a, .int b => a == b
  | .str a, .str b => a == b
  | _, _ => false
theorem eqAt_V {A : Around} {s : Shared} {y x : V} {u v : Value} (ry : RelV y u) (rx : RelV x v) (fy : flatV y = true) (fx : flatV x = true) : SeqAt.EqAt A s u v (eqV y x) := by
  cases y with
  | non =>
    cases ry
    cases x with
    | non => cases rx; exact SeqAt.EqAt.same _
    | bl b => cases rx; exact SeqAt.EqAt.none_bool b
    | int b => obtain ⟨t, rfl⟩ := rx; exact SeqAt.EqAt.none_int b t
    | str b => obtain ⟨t, rfl⟩ := rx; exact SeqAt.EqAt.none_str b t
    | _ => exact absurd (show false = true from fx) Bool.false_ne_true
  | bl a =>
    cases ry
    cases x with
    | non => cases rx; exact SeqAt.EqAt.bool_none a
    | bl b => cases rx; exact SeqAt.EqAt.bool_bool a b
    | int b => obtain ⟨t, rfl⟩ := rx; exact SeqAt.EqAt.bool_int a b t
    | str b => obtain ⟨t, rfl⟩ := rx; exact SeqAt.EqAt.bool_str a b t
    | _ => exact absurd (show false = true from fx) Bool.false_ne_true
  | int a =>
    obtain ⟨t', rfl⟩ := ry
    cases x with
    | non => cases rx; exact SeqAt.EqAt.int_none a t'
    | bl b => cases rx; exact SeqAt.EqAt.int_bool a t' b
    | int b => obtain ⟨t, rfl⟩ := rx; exact SeqAt.EqAt.int_int a t' b t
    | str b => obtain ⟨t, rfl⟩ := rx; exact SeqAt.EqAt.int_str a t' b t
    | _ => exact absurd (show false = true from fx) Bool.false_ne_true
  | str a =>
    obtain ⟨t', rfl⟩ := ry
    cases x with
    | non => cases rx; exact SeqAt.EqAt.str_none a t'
    | bl b => cases rx; exact SeqAt.EqAt.str_bool a t' b
    | int b => obtain ⟨t, rfl⟩ := rx; exact SeqAt.EqAt.str_int a t' b t
    | str b => obtain ⟨t, rfl⟩ := rx; exact SeqAt.EqAt.str_str a t' b t
    | _ => exact absurd (show false = true from fx) Bool.false_ne_true
  | _ => exact absurd (show false = true from fy) Bool.false_ne_true
/-- the items' answers, read off the values (a value's own answer does not lean on its token) -/
def eqU (x : V) (u : Value) : Bool := match u with
  | .none => eqV .non x
  | .bool b => eqV (.bl b) x
  | .int i _ => eqV (.int i) x
  | .str z _ => eqV (.str z) x
  | _ => false
theorem eqU_of {x y : V} {u : Value} (r : RelV y u) (f : flatV y = true) : eqU x u = eqV y x := by
  cases y with
  | non => cases r; rfl
  | bl b => cases r; rfl
  | int i => obtain ⟨t, rfl⟩ := r; rfl
  | str z => obtain ⟨t, rfl⟩ := r; rfl
  | _ => exact absurd (show false = true from f) Bool.false_ne_true
theorem any_eqU {x : V} : ∀ {xs : List V} {us : List Value}, Vals xs us → xs.all flatV = true → us.any (eqU x) = xs.any fun y => eqV y x
  | _, _, .nil, _ => rfl
  | y :: xs, u :: us, .cons r t, f => by
    rw [List.all_cons, Bool.and_eq_true] at f
    rw [List.any_cons, List.any_cons, eqU_of r f.1, any_eqU t f.2]
theorem mem_eqAt {A : Around} {s : Shared} {x : V} {v : Value} (rx : RelV x v) (fx : flatV x = true) : ∀ {xs : List V} {us : List Value}, Vals xs us → xs.all flatV = true → ∀ u ∈ us, SeqAt.EqAt A s u v (eqU x u)
  | _, _, .nil, _ => fun u hu => by cases hu
  | y :: xs, u :: us, .cons r t, f => fun u' hu => by
    rw [List.all_cons, Bool.and_eq_true] at f
    rcases List.mem_cons.mp hu with rfl | hu
    · rw [eqU_of r f.1]; exact eqAt_V r rx f.1 fx
    · exact mem_eqAt rx fx t f.2 u' hu
def inV (x : V) (xs : List V) : Bool := xs.any fun y => eqV y x
/-- x in a list or tuple of flat items -/
def rIn (K : PySem.W.Frag) (neg : Bool) : R2 := fun x y H Q => ∃ p xs, y = .ref p ∧ (SqL K H p xs ∨ SqT K H p xs) ∧ flatV x = true ∧ xs.all flatV = true ∧ Q (.bl (if neg then !inV x xs else inV x xs)) H
theorem op_in_seq : OpR X (compareOp .In) (rIn X.K false) := by
  intro pins s σ H x y v u Q I rx ry h
  obtain ⟨p, xs, rfl, hq, fx, fs, q⟩ := h
  cases ry
  rcases hq with hq | hq
  · obtain ⟨its, r, pl, hz⟩ := I.list hq
    refine SeqAt.in_listAt (eqU x) pl.isList (fun w hw => mem_eqAt rx fx r fs w (by simpa using hw)) ⟨.bl _, H, I, rfl, ?_⟩
    rw [show its.toArray.any (eqU x) = its.any (eqU x) by simp, any_eqU r fs]
    exact q
  · obtain ⟨its, r, pl, hz⟩ := I.tuple hq
    refine SeqAt.in_tupleAt (eqU x) pl (fun w hw => mem_eqAt rx fx r fs w (by simpa using hw)) ⟨.bl _, H, I, rfl, ?_⟩
    rw [show its.toArray.any (eqU x) = its.any (eqU x) by simp, any_eqU r fs]
    exact q
theorem op_notIn_str : OpR X (compareOp .NotIn) (fun x y H Q => ∃ i j, x = .str i ∧ y = .str j ∧ Q (.bl (!(!(Builtin.Str.occurrences j i 0 j.length 1).isEmpty))) H) := by
  intro pins s σ H x y v u Q I rx ry h
  obtain ⟨i, j, rfl, rfl, q⟩ := h
  obtain ⟨t, rfl⟩ := rx
  obtain ⟨t', rfl⟩ := ry
  exact notIn_str ⟨.bl _, H, I, rfl, q⟩

/-! ### len, list(x), tuple(x) of any list or tuple that is read -/
theorem call_len_seq : CallR X (.builtin "len") (fun xs H Q => ∃ p ys, xs = [.ref p] ∧ (SqL X.K H p ys ∨ SqT X.K H p ys) ∧ Q (.int ys.length) H) := by
  intro pins s σ H xs us Q I r h
  obtain ⟨p, ys, rfl, hq, q⟩ := h
  obtain ⟨u, rfl, rx⟩ := vals1 r
  cases rx
  have hn := line63
  rcases hq with hq | hq
  · obtain ⟨its, r', pl, hz⟩ := I.list hq
    have hlen := r'.length
    exact Calls.call_len_list pl.isList (by simp only [List.size_toArray] <;> omega) ⟨.int ys.length, H, I.tok _, ⟨s.toks + 1, by rw [List.size_toArray, hlen]⟩, q⟩
  · obtain ⟨its, r', pl, hz⟩ := I.tuple hq
    have hlen := r'.length
    exact len_tuple pl (by simp only [List.size_toArray] <;> omega) ⟨.int ys.length, H, I.tok _, ⟨s.toks + 1, by rw [List.size_toArray, hlen]⟩, q⟩
theorem call_list_of : CallR X (.type "list") (fun xs H Q => ∃ p ys, xs = [.ref p] ∧ (SqL X.K H p ys ∨ SqT X.K H p ys) ∧ ∀ l, H l = none → Q (.ref l) (upd H l (.lst ys))) := by
  intro pins s σ H xs us Q I r h
  obtain ⟨p, ys, rfl, hq, q⟩ := h
  obtain ⟨u, rfl, rx⟩ := vals1 r
  cases rx
  have fin : ∀ (its : List Value), Vals ys its → ys.length ≤ sizeLine → ∀ (h' : Heap) (c' : Nat), (∀ b o', s.heap.get? b = some o' → h'.get? b = some o') →
      h'.get? s.heap.objs.size = some { cls := .type "list", dict := none, data := .seq its.toArray c', slots := #[] } → EP X pins σ Q (.ref s.heap.objs.size) { s with heap := h' } := fun its r' hz h' c' kp e =>
    ⟨.ref s.heap.objs.size, _, I.laid (t' := s.toks) kp (Nat.le_refl _) (show ObjOk X.prog X.w _ h' _ (.lst ys) from ⟨hz, its, c', r', e⟩), rfl, q _ (I.hok.fresh (Nat.le_refl _))⟩
  rcases hq with hq | hq
  · obtain ⟨its, r', pl, hz⟩ := I.list hq
    have hlen := r'.length
    obtain ⟨o, ho, hc, n, hd⟩ := pl.isList
    exact call_list_seq p (.inl rfl) ho hc hd (fun h' c' kp e => fin its r' hz h' c' kp e) (by simp only [List.size_toArray] <;> omega)
  · obtain ⟨its, r', pl, hz⟩ := I.tuple hq
    have hlen := r'.length
    obtain ⟨o, ho, hc, n, hd⟩ := pl
    exact call_list_seq p (.inr rfl) ho hc hd (fun h' c' kp e => fin its r' hz h' c' kp e) (by simp only [List.size_toArray] <;> omega)
theorem call_tuple_of : CallR X (.type "tuple") (fun xs H Q => ∃ p ys, xs = [.ref p] ∧ ((SqL X.K H p ys ∧ ∀ l, H l = none → Q (.ref l) (upd H l (.tup ys))) ∨ (SqT X.K H p ys ∧ Q (.ref p) H))) := by
  intro pins s σ H xs us Q I r h
  obtain ⟨p, ys, rfl, h⟩ := h
  obtain ⟨u, rfl, rx⟩ := vals1 r
  cases rx
  rcases h with ⟨hq, q⟩ | ⟨hq, q⟩
  · obtain ⟨its, r', pl, hz⟩ := I.list hq
    have hlen := r'.length
    refine call_tuple_list pl.isList (fun h' kp => ?_) (by simp only [List.size_toArray] <;> omega)
    have I1 : Inv X pins σ H { s with heap := h' } := I.kept (t' := s.toks) kp
    have I2 : Inv X pins σ (upd H h'.objs.size (.tup ys)) { s with heap := h'.push { cls := .type "tuple", data := .seq its.toArray } } :=
      I1.laid (t' := s.toks) (fun b o e => Heap.get?_push_of_some _ e) (Nat.le_refl _) (show ObjOk X.prog X.w _ _ _ (.tup ys) from ⟨hz, its, r', IsTup.new _ _⟩)
    exact ⟨.ref h'.objs.size, _, I2, rfl, q _ (I1.hok.fresh (Nat.le_refl _))⟩
  · obtain ⟨its, r', pl, hz⟩ := I.tuple hq
    exact call_tuple_same pl ⟨.ref p, H, I, rfl, q⟩

/-! ### the call of a builtin's method: o.m(..) -/
/-- the value is of that builtin type -/
def tyV (K : PySem.W.Frag) (T : String) (x : V) (H : Hp) : Prop := match x with
  | .str _ => T = "str"
  | .int _ => T = "int"
  | .ref p => (T = "list" ∧ ∃ xs, SqL K H p xs) ∨ (T = "tuple" ∧ ∃ o, K.lookup p = some o ∧ o.cls = .type "tuple" ∧ o.dict = none) ∨
      (T = "dict" ∧ ((∃ kvs, H p = some (.dK kvs)) ∨ ∃ kvs, H p = some (.dT kvs))) ∨ (T = "set" ∧ ∃ S n, H p = some (.set S n))
  | _ => False
theorem tyV_is {pins : List (Addr × Obj)} {σ : St} {H : Hp} {s : Shared} {T : String} {x : V} {v : Value} (I : Inv X pins σ H s) (r : RelV x v) (ty : tyV X.K T x H) :
    s.TypeIs v T ∧ ∀ a, v = .ref a → ∃ ob, s.heap.get? a = some ob ∧ ob.dict = none := by
  cases x with
  | str z =>
    obtain ⟨t, rfl⟩ := r
    cases (show T = "str" from ty)
    exact ⟨typeIs_str s z t, fun _ e => nomatch e⟩
  | int i =>
    obtain ⟨t, rfl⟩ := r
    cases (show T = "int" from ty)
    exact ⟨typeIs_int s i t, fun _ e => nomatch e⟩
  | ref p =>
    cases r
    rcases ty with ⟨rfl, xs, hq⟩ | ⟨rfl, o, hk, hc, hd⟩ | ⟨rfl, hk⟩ | ⟨rfl, S, n, hk⟩
    · obtain ⟨its, _, pl, _⟩ := I.list hq
      refine ⟨pl.isList.typeIs, fun a e => ?_⟩
      cases e
      obtain ⟨o, n, e, c, hd, _⟩ := pl
      exact ⟨o, e, hd⟩
    · refine ⟨⟨o, I.kIn p o hk, hc⟩, fun a e => ?_⟩
      cases e
      exact ⟨o, I.kIn _ o hk, hd⟩
    · have z : ∃ o, s.heap.get? p = some o ∧ o.ExactDict := by
        rcases hk with ⟨kvs, hk⟩ | ⟨kvs, hk⟩
        · obtain ⟨_, _, _, _, o, _, _, e, ex, _⟩ := I.hok p _ hk
          exact ⟨o, e, ex⟩
        · obtain ⟨_, _, _, _, o, _, _, e, ex, _⟩ := I.hok p _ hk
          exact ⟨o, e, ex⟩
      obtain ⟨o, e, ex⟩ := z
      refine ⟨⟨o, e, ex.1⟩, fun a e2 => ?_⟩
      cases e2
      exact ⟨o, e, ex.2.1⟩
    · obtain ⟨o, _, _, _, e, ex, _⟩ := I.hok p _ hk
      refine ⟨⟨o, e, ex.1⟩, fun a e2 => ?_⟩
      cases e2
      exact ⟨o, e, ex.2.1⟩
  | _ => exact False.elim ty
def tBM (K : PySem.W.Frag) (T : String) (r : V → List V → Hp → VK → Prop) (to : TE) (t : TA) : TE := fun σ H Q => to σ H fun x H1 => tyV K T x H1 ∧ t σ H1 fun xs H2 => r x xs H2 Q
variable {o e : Expr} {es : List Expr} {to : TE} {t : TA} {name : Str} {apos cpos : Pos} {T id : String} {r : V → List V → Hp → VK → Prop}
theorem pe_bm (pa : PlainAttrs T) (slot : Slot T name id) (hty : typeOf (.builtin id) = pure (.type "method_descriptor")) (hm : MtR X id r) (ho : PE X o to) (ha : PA X (e :: es) t)
    (hbase : attributeBase o name X.env (eval o X.env) = eval o X.env := by rfl)
    (hfew : ((backTo cpos (starEach (e :: es) X.env)).all (fun x => !x.1) && (backToKw cpos (keywordEach [] X.env)).all (fun x => x.1.isSome)
      && decide ((e :: es).length + ([] : List Keyword).length + (if ([] : List Keyword).isEmpty then 0 else 1) < 30)) = true := by rfl)
    (hline : (apos.endLine == cpos.line) = true := by rfl) (hs : starEach (e :: es) X.env = (false, eval e X.env) :: starEach es X.env := by rfl) (hplain : (backTo cpos (starEach es X.env)).any (·.1) = false := by rfl) :
    PE X (.Call (.Attribute o name apos) (e :: es) [] cpos) (tBM X.K T r to t) := by
  intro pins s σ H Q I h
  refine wpAny_Call_method_late hbase hfew hline rfl (thn (ho pins s σ H _ I h) fun v s1 ⟨x, H1, I1, r1, ty, q1⟩ => ?_)
  obtain ⟨h1, h2⟩ := tyV_is I1 r1 ty
  refine ⟨T, id, pa, slot, hty, h1, h2, ?_⟩
  have hA := ha cpos pins s1 σ H1 _ I1 q1
  rw [hs] at hA ⊢
  refine Calls.callWith_builtin (by show (false || (backTo cpos (starEach es X.env)).any (·.1)) = false; rw [hplain] <;> rfl) (Calls.evalArgs_plain ?_)
  exact thn hA fun us s2 ⟨vs, H2, I2, r2, q2⟩ => hm pins s2 σ H2 x vs v us Q I2 r1 r2 q2
/- xs.append(e), list.index on a module's tuple .. are MtR facts of 06m -/
end
end L2

namespace L2
open PySem PySem.Spec PyProof.Rows

def MtM (X : Cx) (id : String) (r : V → List V → Hp → VK → Prop) : Prop :=
  ∀ (pins : List (Addr × Obj)) (s : Shared) (σ : St) (H : Hp) (x : V) (xs : List V) (v : Value) (us : List Value) (Q : VK), Inv X pins σ H s → RelV x v → Vals xs us → r x xs H Q →
    wpAny (model X.prog X.w) X.A (call (.builtin id) (v :: us)) (EP X pins σ Q) X.xe s

/-! ### lists of values -/
theorem Vals.one {x : V} {us : List Value} (h : Vals [x] us) : ∃ u, us = [u] ∧ RelV x u := by
  cases h with
  | cons r t => cases t; exact ⟨_, rfl, r⟩
theorem Vals.rep {xs : List V} {us : List Value} (h : Vals xs us) : ∀ k : Nat, Vals (List.replicate k xs).flatten (List.replicate k us).flatten
  | 0 => .nil
  | k + 1 => by
    rw [List.replicate_succ, List.replicate_succ, List.flatten_cons, List.flatten_cons]
    exact Vals.append h (Vals.rep h k)
theorem foldl_rep (its : List Value) : ∀ (k : Nat) (acc : List Value),
    List.foldl (fun x1 x2 => x1 ++ x2) acc.toArray (List.replicate k its.toArray) = (acc ++ (List.replicate k its).flatten).toArray
  | 0, acc => by simp
  | k + 1, acc => by
    have e : acc.toArray ++ its.toArray = (acc ++ its).toArray := by simp
    have e2 : (acc ++ its) ++ (List.replicate k its).flatten = acc ++ (List.replicate (k + 1) its).flatten := by
      rw [List.replicate_succ, List.flatten_cons, List.append_assoc]
    rw [← e2, ← foldl_rep its k (acc ++ its), ← e, List.replicate_succ, List.foldl_cons]

section
variable {X : Cx} {pins : List (Addr × Obj)} {σ : St} {H : Hp} {s : Shared} {l b : Addr} {xs ys zs : List V}

/-! ### the two steps: a tracked list is rewritten, a new list is laid -/
theorem Inv.lset {its its' : List Value} {n : Nat} {f : Array Value → Array Value} {t' : Nat} (I : Inv X pins σ H s) (hH : H l = some (.lst xs))
    (e : s.heap.get? l = some { cls := .type "list", data := .seq its.toArray n }) (hf : f its.toArray = its'.toArray) (hv : Vals ys its') (hz : ys.length ≤ sizeLine) :
    Inv X pins σ (upd H l (.lst ys)) { s with heap := s.heap.update l (Obj.mapSeq f), toks := t' } := by
  have q := PySem.IsL.update e f
  rw [hf] at q
  refine I.write (x := l) (e := l) (by rw [hH]; exact trivial) (.inl rfl) (fun b' u hb hu => (Heap.get?_update_other s.heap (Obj.mapSeq f) (Ne.symm hb)).trans hu) ⟨_, q⟩ ?_
  exact ⟨hz, its', _, hv, q⟩
theorem Inv.lnew {its : List Value} {t' : Nat} (I : Inv X pins σ H s) (hv : Vals ys its) (hz : ys.length ≤ sizeLine) :
    Inv X pins σ (upd H s.heap.objs.size (.lst ys)) { s with heap := s.heap.push { cls := .type "list", data := .seq its.toArray }, toks := t' } :=
  I.laid (fun _ _ q => Heap.get?_push_of_some _ q) (Nat.le_refl _) ⟨hz, its, 0, hv, Heap.get?_push_size _ rfl⟩
theorem Inv.fresh (I : Inv X pins σ H s) : H s.heap.objs.size = none := I.hok.fresh (Nat.le_refl _)
theorem Inv.lstM (I : Inv X pins σ H s) (hH : H l = some (.lst xs)) : xs.length ≤ sizeLine ∧ ∃ (its : List Value) (n : Nat), Vals xs its ∧ xs.length = its.length ∧ s.heap.get? l = some { cls := .type "list", data := .seq its.toArray n } := by
  obtain ⟨z, its, n, r, e⟩ := I.hok l _ hH
  exact ⟨z, its, n, r, r.length, e⟩

theorem notLongL {n : Nat} (h : n ≤ sizeLine) : Builtin.List.listTooLong n = false := by
  unfold Builtin.List.listTooLong
  exact decide_eq_false (by omega)
end

section
variable {X : Cx}

/-! ### methods -/
def rAppend : V → List V → Hp → VK → Prop := fun x vs H Q => ∃ l xs y, x = .ref l ∧ vs = [y] ∧ H l = some (.lst xs) ∧ xs.length < sizeLine ∧ Q .non (upd H l (.lst (xs ++ [y])))
theorem mt_append : MtM X "list.append" rAppend := by
  intro pins s σ H x vs v us Q I rx rv h
  obtain ⟨l, xs, y, rfl, rfl, hH, hz, q⟩ := h
  cases rx
  obtain ⟨u, rfl, ru⟩ := rv.one
  obtain ⟨z, its, n, r, hl, e⟩ := I.lstM hH
  refine call_meets F.slot_list_append ⟨_, e, rfl⟩ F.entry_list_append (F.args_list_append_2 _ _) (PySem.list_append l its.toArray n u (by rw [List.size_toArray]; omega)) ⟨e, ?_⟩
  refine ⟨.non, _, I.lset (its' := its ++ [u]) hH e (by simp) (r.append (.cons ru .nil)) ?_, rfl, q⟩
  rw [List.length_append, List.length_singleton]
  omega

/-! ### list + list, list += list, list * int -/
def rCat : R2 := fun x y H Q => ∃ l b xs zs, x = .ref l ∧ y = .ref b ∧ H l = some (.lst xs) ∧ H b = some (.lst zs) ∧ xs.length + zs.length ≤ sizeLine ∧ ∀ p, H p = none → Q (.ref p) (upd H p (.lst (xs ++ zs)))
theorem op_cat : OpR X (binaryOp .Add) rCat := by
  intro pins s σ H x y v u Q I rx ry h
  obtain ⟨l, b, xs, zs, rfl, rfl, hH, hB, hz, q⟩ := h
  cases rx
  cases ry
  obtain ⟨z, its, n, r, hl, e⟩ := I.lstM hH
  obtain ⟨z2, its2, n2, r2, hl2, e2⟩ := I.lstM hB
  refine PySem.P.add_list e e2 ?_ (by rw [List.size_toArray, List.size_toArray]; omega)
  have ea : its.toArray ++ its2.toArray = (its ++ its2).toArray := by simp
  rw [ea]
  exact ⟨.ref _, _, I.lnew (t' := s.toks) (r.append r2) (by rw [List.length_append]; omega), rfl, q _ I.fresh⟩
/-- a list times an int (a negative one is nothing) -/
def rRep : R2 := fun x y H Q => ∃ l k xs, x = .ref l ∧ y = .int k ∧ H l = some (.lst xs) ∧ -(2 ^ 63) ≤ k ∧ k < 2 ^ 63 ∧ xs.length * k.toNat ≤ sizeLine ∧
  ∀ p, H p = none → Q (.ref p) (upd H p (.lst (List.replicate k.toNat xs).flatten))
theorem len_rep {α : Type} (xs : List α) (k : Nat) : (List.replicate k xs).flatten.length = k * xs.length := by
  induction k with
  | zero => simp
  | succ k ih => rw [List.replicate_succ, List.flatten_cons, List.length_append, ih, Nat.succ_mul, Nat.add_comm]
theorem op_rep : OpR X (binaryOp .Mult) rRep := by
  intro pins s σ H x y v u Q I rx ry h
  obtain ⟨l, k, xs, rfl, rfl, hH, h1, h2, hz, q⟩ := h
  cases rx
  obtain ⟨t, rfl⟩ := ry
  obtain ⟨z, its, n, r, hl, e⟩ := I.lstM hH
  have hlen : its.toArray.size * k.toNat ≤ sizeLine := by rw [List.size_toArray, ← hl]; exact hz
  have hcap : ¬ its.toArray.size * k.toNat > (2 ^ 63 - 1) / 8 := by
    have : (sizeLine : Nat) ≤ (2 ^ 63 - 1) / 8 := by decide
    omega
  have hfit : ¬ (!Builtin.List.listFitsIndex k) = true := by
    rw [fitsIndex_both h1 h2]
    exact Bool.false_ne_true
  have hlong : ¬ Builtin.List.listTooLong (its.toArray.size * k.toNat) = true := by
    rw [notLongL hlen]
    exact Bool.false_ne_true
  have hnew : List.foldl (fun x1 x2 => x1 ++ x2) #[] (List.replicate (if its.toArray.isEmpty = true then 0 else k.toNat) its.toArray) = (List.replicate k.toNat its).flatten.toArray := by
    have f0 : ∀ m : Nat, List.foldl (fun x1 x2 => x1 ++ x2) #[] (List.replicate m its.toArray) = (List.replicate m its).flatten.toArray := fun m => by
      have := foldl_rep its m []
      rw [List.nil_append] at this
      exact this
    rw [f0]
    cases its with
    | nil => simp
    | cons a r' => rw [if_neg (by simp)]
  refine wpAny_binaryOp_repeat_ref (T := "list") (U := "int") (by decide) ⟨_, e, rfl⟩ (fun s' => typeIs_int s' k t) noFill_list_mul F.fills_int_mul F.slot_int_rmul repeat_list F.slot_int_index.lookup
    (call_meets F.slot_int_rmul (typeIs_int s k t) F.entry_int_rmul (F.args_int_rmul_2 _ _) (int___rmul___int_list k t l its.toArray n)
      ⟨e, rfl, ⟨_, e, rfl⟩, call_meets F.slot_list_mul ⟨_, e, rfl⟩ F.entry_list_mul (F.args_list_mul_2 _ _) (AutoListH.list___mul___list_int_3 l its.toArray n k t hfit hcap hlong) ⟨e, ?_⟩⟩)
  rw [hnew]
  exact ⟨.ref _, _, I.lnew (t' := s.toks) (r.rep k.toNat) (by rw [len_rep, Nat.mul_comm]; exact hz), rfl, q _ I.fresh⟩

/-! ### del xs[i] -/
end

/-! ### xs[a:b] = ys -/
section
variable {prog : Program} {w : World} {A : Around} {E : Value → Shared → Prop} {s : Shared}
end

section
variable {X : Cx}
end
end L2

namespace L2
open PySem PySem.Spec PyProof.Rows

/-! ### lists of pairs as tables -/
section
variable {κ : Type} [DecidableEq κ]
end


/-! ### a tracked dict, its keys ints and texts or tuples of these -/
/-- raw entries of a dict with tuple keys -/
abbrev KT (H : Hp) : List (List Key × V) → List (List Key × Addr × Value) → Prop := Paired fun p q => p.1 = q.1 ∧ H q.2.1 = some (.tup (p.1.map kV)) ∧ RelV p.2 q.2.2
section
variable {P : Program} {w : World} {H : Hp} {h : Heap} {a : Addr}
end

section
variable {X : Cx} {pins : List (Addr × Obj)} {σ : St} {H : Hp} {s : Shared} {a : Addr} {y v : V} {u r : Value} {o : Option V} {A : Around} {E : Value → Shared → Prop}

end

section
variable {X : Cx} {pins : List (Addr × Obj)} {σ : St} {H : Hp} {s : Shared} {a : Addr} {kvs : List (Key × V)} {k : Key} {u : Value} {A : Around} {E : Value → Shared → Prop}
end


/-! ### readings and rules -/
section
variable {X : Cx} {o i e value : Expr} {pos pos' tpos : Pos} {td ty tv : TE}
end


/-! ### displays -/
section
variable {X : Cx} {pos : Pos}
end

/-! ### methods -/
section
variable {X : Cx} {pins : List (Addr × Obj)} {σ : St} {H : Hp} {s : Shared} {a : Addr} {y d : V} {u r : Value} {o : Option V} {A : Around} {E : Value → Shared → Prop}
end

section
variable {X : Cx} {o e f : Expr} {apos cpos : Pos} {td ty tx : TE}
end

/-! ### dict(d): a copy -/
section
variable {X : Cx} {pins : List (Addr × Obj)} {σ : St} {H : Hp} {s : Shared} {a : Addr} {kvs : List (Key × V)} {A : Around} {E : Value → Shared → Prop}
end


section
variable {X : Cx} {pins : List (Addr × Obj)} {σ : St} {H : Hp} {s : Shared} {a : Addr} {y : V} {u : Value} {A : Around} {E : Value → Shared → Prop}
end
end L2

namespace Att
open PySem PySem.W PySem.Calls PyProof.Rows

/-! ### the script -/
theorem ints_of_wellAll {P : Params} {h : Heap} : ∀ (ns : List Int) (vs : List Value), WellAll P h vs (ns.map WData.int) → IntsAre vs ns := by
  intro ns
  induction ns with
  | nil =>
    intro vs w
    rw [List.map_nil] at w
    cases w
    exact .nil
  | cons n ns ih =>
    intro vs w
    rw [List.map_cons] at w
    cases w with
    | cons a b =>
      cases a
      exact .cons _ _ (ih _ b)

theorem script_of {l : OpenLaw} {n : Nat} (hn : l.most = some n) {P : Params} {h : Heap} {args : List WData} {vals : List Value}
    (hpre : l.row.toRowW.claim.pre args = true) (hwl : WellAll P h vals args) :
    ∃ a vs ns, vals = [Value.ref a] ∧ args = [WData.list (ns.map WData.int)] ∧ h.get? a = some { cls := .type "list", data := .seq vs.toArray } ∧ IntsAre vs ns ∧ ns.length ≤ n := by
  have hsh : WShape.hasAll [] args [.list .int] = true := (pre_splitW hpre).1
  have hc : l.pre.holds [] { args := args } = true := (pre_splitW hpre).2
  obtain ⟨d, r, rfl, h1, h2⟩ := hasAllW_cons hsh
  obtain rfl := hasAllW_nil h2
  obtain ⟨xs, rfl, h3⟩ := hasW_list h1
  obtain ⟨ns, rfl⟩ := items_int h3
  have hlen : ns.length ≤ n := by
    unfold OpenLaw.pre at hc
    have h4 : (WTm.not (.lt (.lit (.int (n : Int))) (.len (.arg 0)))).holds [] { args := [.list (ns.map .int)] } = true := by
      have h4 := (holds_andW hc).1
      rw [hn] at h4
      exact h4
    have h5 := condW_of h4 (w_not (w_lt w_lit (w_len_list (w_arg rfl))))
    rw [List.length_map] at h5
    refine Nat.le_of_not_lt fun q => ?_
    have q' : (n : Int) < ((ns.length : Nat) : Int) := by omega
    first
      | (rw [decide_eq_true q'] at h5; exact absurd h5 (by decide))
      | (simp at h5; omega)
  cases hwl with
  | cons w1 w2 =>
    cases w2
    cases w1 with
    | list ho hall => exact ⟨_, _, ns, rfl, rfl, ho, ints_of_wellAll ns _ hall, hlen⟩

theorem post_true (l : OpenLaw) (args : List WData) : l.row.toRowW.claim.post args (.bool true) args = true :=
  postW_of (r := l.row.toRowW) (X := (true == true))
    (show WShape.has [] (.bool true) .bool = true by first | rfl | decide | simp [WShape.has, WShape.arms, WShape.armsAll])
    (show (WTm.eq .res (.lit (.bool true))).value [] { args := args, res := some (.bool true), after := args } = some (.bool (true == true)) from w_eq_bool (w_res rfl) w_lit) rfl

/-! ### the attachment: holds_open's last premise (the goal 'hc' behind k_head) from a wpAny of the law's body -/
/-- the same from a codeAny of the CALL (for a layer whose function contracts speak of calls) -/
theorem attach_call {l : OpenLaw} {n : Nat} {q : Program} {loose : List Str} {XP : (Str → Option Value) → Heap → Prop} {YP : World → Heap → Prop} {d : DefRec}
    (hn : l.most = some n) (hdf : d.params.defaults = [])
    (call : ∀ (w : World) (s₀ s₁ : Shared) (mg mb : Str → Option Value) (fa : Addr) (o : Obj) (pm cd doc : Value) (a : Addr) (vs : List Value) (ns : List Int),
      Ground q loose [] XP w s₀ mg mb s₁.heap → YP w s₁.heap →
      s₁.heap.get? fa = some o → o.data = .func (docDef d.name d.params d.body d.scope pm cd doc) → s₁.heap.CodeRec cd d.name → mg d.name = some (.ref fa) →
      s₁.heap.get? a = some { cls := .type "list", data := .seq vs.toArray } → IntsAre vs ns → ns.length ≤ n → s₁.gens = #[] →
      codeAny (model l.prog w) callerA (.call (.ref fa) ⟨[.ref a], []⟩) (fun r s' => r = .ok (.ret (.bool true)) ∧ OldK s₁.heap s'.heap ∧ s'.os = s₁.os ∧ AllBare s'.gens) s₁) :
    WalkO q loose XP YP l.row.toRowW d [] (fun f vs => PySem.call f vs) := by
  intro w s₀ s₁ mg mb G Y fa o pm cd doc dV kV ho hd hcd hD hmg hg args vals as hpre hlay hrd hwl hlo
  obtain rfl : dV = .none := Dflts.none hD hdf
  obtain rfl : kV = .none := Dflts.noKw hD
  obtain ⟨a, vs, ns, rfl, rfl, hobj, hints, hlen⟩ := script_of hn hpre hwl
  refine enter_call (codeAny_mono (call w s₀ s₁ mg mb fa o pm cd doc a vs ns G Y ho (fd_plain hd) hcd hmg hobj hints hlen hg) fun r s' hq => ?_)
  obtain ⟨rfl, h2, h3, h4⟩ := hq
  exact ⟨.inl ⟨.bool true, .bool true, [], rfl, fun _ => rfl, .bool true, post_true l _, fun _ => ⟨List.Pairwise.nil, fun _ hm => (nomatch hm)⟩⟩, h2, h3, h4⟩

/-! ### rules over ANY heap (no ledger) from facts about the written part K: the library's own take a ledger (News) for what they write -/
section
variable {prog : Program} {w : World} {A : Around} {E : Value → Shared → Prop} {s : Shared} {K : Frag}

/-! the whole heap as the ledger: makes every rule that writes through a ledger a rule over any heap -/
def ledger (h : Heap) (L d : Addr) : List (Addr × Obj) := (List.range h.objs.size).filterMap fun a => if a = L ∨ a = d then none else (h.get? a).map fun o => (a, o)
end
end Att

namespace L2
open PySem PySem.Spec PyProof.Rows

theorem vals_ints {vs : List Value} {ns : List Int} (h : IntsAre vs ns) : Vals (ns.map V.int) vs := by
  induction h with
  | nil => exact .nil
  | cons n t h ih => exact .cons ⟨t, rfl⟩ ih

/-- nothing is tracked but the script, known to the object (or it is an object of the module) -/
def Only (H : Hp) : Prop := ∀ b, H b = none ∨ ∃ o xs, H b = some (.frz o (.lst xs))

/-- THE HEAD: the law's promise, at the heap behind the top. F, the promise of the law's def, may use that base is part of the heap (so K.In base, base.Ns mainGlobals mg stand in Mod) -/
theorem law_call {P : Program} {w : World} {K : PySem.W.Frag} {mg mb : Str → Option Value} {CX : CXT} {k : Nat} {fa a : Addr} {fd : FuncData} {x : Str} {sp : Sp} {s₁ : Shared} {vs : List Value} {ns : List Int}
    (KX : K.In s₁.heap) (hns : s₁.heap.Ns mainGlobals mg) (hb : s₁.heap.Ns builtinsNs mb) (hbb : ∀ x : Str, x ≠ "__name__" → mb x = bootBuiltins x) (hlim : s₁.heap.NoLimit) (hg : s₁.gens = #[])
    (ha : s₁.heap.get? a = some { cls := .type "list", data := .seq vs.toArray }) (hi : IntsAre vs ns) (hl : ns.length ≤ sizeLine) (hr : Room k callerA)
    (F : ∀ base : Heap, K.In base → base.Ns mainGlobals mg → FnOk P w K mg base CX k fa fd [x] sp) (hbind : ∀ (s : Shared) (u : Value), BindsTo s fd ⟨[u], []⟩ [(x, u)])
    (hsp : ∀ H : Hp, Only H → SqL K H a (ns.map V.int) → sp [.ref a] H (fun v _ => v = .bl true) fun _ _ _ => False)
    (hCX : ∀ H e s', CX [] H s₁ (fun _ _ _ => False) e s' → False) :
    codeAny (model P w) callerA (.call (.ref fa) ⟨[.ref a], []⟩) (fun r s' => r = .ok (.ret (.bool true)) ∧ OldK s₁.heap s'.heap ∧ s'.os = s₁.os ∧ AllBare s'.gens) s₁ := by
  have rv := vals_ints hi
  have lenV := hi.length
  -- from an abstract heap in which nothing but the script may be tracked
  have core : ∀ H : Hp, Only H → SqL K H a (ns.map V.int) → HOk P w H s₁.heap → (∀ b, H b ≠ none → b = a) → (H a ≠ none → K.lookup a = none) →
      codeAny (model P w) callerA (.call (.ref fa) ⟨[.ref a], []⟩) (fun r s' => r = .ok (.ret (.bool true)) ∧ OldK s₁.heap s'.heap ∧ s'.os = s₁.os ∧ AllBare s'.gens) s₁ := by
    intro H hO hS hok hA hK
    have base_of : ∀ {b : Addr} {o : Obj}, s₁.heap.get? b = some o → H b = none → (hidT s₁.heap H).get? b = some o := fun e n => hidT_get e n
    have noA : ∀ {b : Addr} {o : Obj} {es : Array DictEntry} {ep : Nat}, s₁.heap.get? b = some o → o.data = .dict es ep → H b = none := fun {b o es ep} e d => by
      cases q : H b with
      | none => rfl
      | some u =>
        have e' : b = a := hA b (by rw [q]; simp)
        subst e'
        rw [ha] at e; cases e
        have d' : Data.seq vs.toArray _ = Data.dict es ep := d
        cases d'
    have nsK : ∀ {b : Addr} {m : Str → Option Value}, s₁.heap.Ns b m → (hidT s₁.heap H).Ns b m := fun {b m} ⟨o, es, ep, e, d, r⟩ => ⟨o, es, ep, base_of e (noA e d), d, r⟩
    have hKb : K.In (hidT s₁.heap H) := fun b o e => base_of (KX b o e) (by
      cases q : H b with
      | none => rfl
      | some u =>
        have e' : b = a := hA b (by rw [q]; simp)
        subst e'
        rw [hK (by rw [q]; simp)] at e; cases e)
    have hM : Mod K mg (hidT s₁.heap H) := ⟨hKb, nsK hns, ⟨mb, nsK hb, hbb⟩, let ⟨mc, h1, h2⟩ := hlim; ⟨mc, nsK h1, h2⟩⟩
    have e0 : Env0 P w K mg (hidT s₁.heap H) callerA [] s₁ H := ⟨rfl, hM, fun b o e => of_hidT e, Nat.le_of_eq (hidT_size _ _), trivial, fun b hb => absurd (show b ∈ ([] : List Addr) from hb) (by simp), hok, .of_eq hg⟩
    refine codeAny_mono ((F _ hKb (nsK hns)).run callerA [] s₁ H ⟨[.ref a], []⟩ [.ref a] [.ref a] _ _ hr e0 (hbind s₁ (.ref a)) (.cons rfl .nil) (hsp H hO hS)) fun r s' h => ?_
    cases r with
    | error e => exact (hCX H e s' h).elim
    | ok fl =>
      cases fl with
      | next => exact False.elim h
      | brk => exact False.elim h
      | cont => exact False.elim h
      | ret u =>
        obtain ⟨v, H', os, bare, un, hok', r', q⟩ := h
        have q' : v = .bl true := q
        subst q'
        obtain rfl : u = Value.bool true := r'
        refine ⟨rfl, OldK.of_keep fun b o e => ?_, os, bare⟩
        cases q : H b with
        | none => exact un.keep b o e q (by intro z; exact absurd (show b ∈ ([] : List Addr) from z) (by simp)) (by simp)
        | some u =>
          rcases hO b with z | ⟨ob, xs, z⟩
          · rw [q] at z; cases z
          · have z2 := un.frzs b ob _ z
            obtain ⟨e1, _⟩ := hok b _ z
            obtain ⟨e2, _⟩ := hok' b _ z2
            rw [e] at e1; cases e1
            exact e2
  cases hk : K.lookup a with
  | some o =>
    -- the script is one of the module's own objects
    have e := KX a o hk
    rw [ha] at e
    cases e
    refine core (fun _ => none) (fun _ => .inl rfl) (.inr ⟨_, vs.toArray, _, hk, rfl, rfl, rfl, by rw [List.size_toArray, lenV]; exact hl, by simpa using rv⟩) (fun b u z => by have z' : (none : Option HO) = some u := z; cases z') (fun b z => absurd rfl z) fun z => absurd rfl z
  | none =>
    refine core (fun b => if b = a then some (.frz { cls := .type "list", data := .seq vs.toArray } (.lst (ns.map V.int))) else none) (fun b => ?_) (.inl (.inr ⟨{ cls := .type "list", data := .seq vs.toArray }, if_pos rfl⟩)) (fun b u z => ?_) (fun b z => ?_) fun _ => hk
    · by_cases hb : b = a
      · exact .inr ⟨_, _, if_pos hb⟩
      · exact .inl (if_neg hb)
    · by_cases hb : b = a
      · have z' := (if_pos hb).symm.trans z
        cases z'
        subst hb
        exact ⟨ha, by rw [List.length_map]; exact hl, vs, _, rv, ha⟩
      · have z' := (if_neg hb).symm.trans z
        cases z'
    · by_cases hb : b = a
      · exact hb
      · exact absurd (if_neg hb) z
end L2

namespace L2
open PySem PySem.Spec PyProof.Rows

abbrev KOf {K : PySem.W.Frag} {h : Heap} (_ : K.In h) : PySem.W.Frag := K

/-- the goal that k_head leaves (case hc), from the law's promise. F gives the function object fd (K's own) once, then the promise over every base -/
theorem walk_of {l : PySem.W.OpenLaw} {n k : Nat} {q : Program} {loose : List Str} {XP : (Str → Option Value) → Heap → Prop} {YP : World → Heap → Prop} {d : DefRec} {K : Params → PySem.W.Frag} {CX : World → CXT} {sp : World → Sp} {x : Str}
    (hn : l.most = some n) (hn2 : n ≤ sizeLine) (hdf : d.params.defaults = []) (hr : Room k callerA)
    (hY : ∀ (w : World) (h : Heap), YP w h → (K w.params).In h)
    (F : ∀ (w : World) (mg : Str → Option Value) (fa : Addr) (h : Heap), (K w.params).In h → h.Ns mainGlobals mg → mg d.name = some (.ref fa) →
      ∃ fd : FuncData, (∀ (s : Shared) (u : Value), BindsTo s fd ⟨[u], []⟩ [(x, u)]) ∧
        ∀ base : Heap, (K w.params).In base → base.Ns mainGlobals mg → FnOk l.prog w (K w.params) mg base (CX w) k fa fd [x] (sp w))
    (hsp : ∀ (w : World) (H : Hp) (a : Addr) (ns : List Int), ns.length ≤ n → Only H → SqL (K w.params) H a (ns.map V.int) → sp w [.ref a] H (fun v _ => v = .bl true) fun _ _ _ => False)
    (hCX : ∀ (w : World) (H : Hp) (s : Shared) (e : Value) (s' : Shared), CX w [] H s (fun _ _ _ => False) e s' → False) :
    PySem.W.WalkO q loose XP YP l.row.toRowW d [] (fun f vs => PySem.call f vs) := by
  refine Att.attach_call hn hdf fun w s₀ s₁ mg mb fa o pm cd doc a vs ns G Y ho hd hcd hmg hobj hints hlen hg => ?_
  have KX := hY w _ Y
  obtain ⟨fd, hb, hF⟩ := F w mg fa _ KX G.T.g hmg
  exact law_call KX G.T.g G.T.b G.T.builtins G.T.nolimit hg hobj hints (Nat.le_trans hlen hn2) hr hF hb (fun H hO hS => hsp w H a ns hlen hO hS) fun H e s' => hCX w H s₁ e s'
end L2

/- THE LAST THEOREM (shape; LID, My.* are yours):
   My.Adr: a structure of the addresses that your layer names (classes, functions); My.Txt K t: a structure (Prop) of the equations over K;
   My.txt_mk : {K} {implicit addresses ..} (e1 : nsIn K mainGlobals "law" = some (some (.ref f))) (e2 : K.lookup f = some ⟨oc, od, .func (fnOf "law" "law" params body scope dV kV doc pm an cdv ct), sl⟩) (e3 : codeIn K cdv "law" = true) .. : ∃ t, My.Txt K t

set_option maxRecDepth 100000 in
set_option maxHeartbeats 0 in
theorem PySem.Challenge.cw_LID_holds : PySem.Challenge.rw_LID.Holds := by
  w_on; o_law; k_head; (case hw => w_witness2)
  k_fill
  refine L2.walk_of (l := PySem.Challenge.rw_LID) (n := 63) (k := 40) (x := "script") (CX := fun w => ..) (sp := fun _ => My.sp_law) rfl (by decide) rfl ⟨rfl, by decide, by decide⟩ (fun w h Y => PySem.W.kIn_of Y) ?F ?S ?C
  case F =>
    intro w mg fa h KX G hmg
    have T : ∃ t, My.Txt (L2.KOf KX) t := by
      dsimp only [L2.KOf]                          -- K must stand as «<heap const> w.params» for k_is
      refine' My.txt_mk ?e1 ?e2 ?e3 ..
      (case e1 => PySem.W.k_is)                    -- in the order: a name -> its address -> its object -> its parts
      (case e2 => PySem.W.k_is)
      ..
    obtain ⟨t, T⟩ := T
    have e0 := hmg.symm.trans (PySem.W.mg_of KX G T.law)
    cases e0                                       -- fa is the law's own address
    exact ⟨_, fun s u => .of_eq rfl, fun base kb nb => My.law_fn T kb nb⟩     -- if «.of_eq rfl» comes too early: refine' ⟨_, ?b, fun base kb nb => My.law_fn T kb nb⟩; exact fun s u => .of_eq rfl
  case S => exact fun w H a ns hl hO hS => ..
  case C => exact ..
(the tactic k_is has no namespace: write k_is) -/

/-! SHORT WORDS over the layer: a def of the text, its body, what a loop and a test want. -/
namespace L2
open PySem PySem.Spec PyProof.Rows

/-! ### the text by places -/
/-- the j-th statement of a class's body -/
def inClass (s : Stmt) (j : Nat) : Stmt := match s with
  | .ClassDef _ _ _ body _ _ _ _ _ _ _ => body.getD j (.Pass ⟨0, 0, 0, 0⟩)
  | _ => .Pass ⟨0, 0, 0, 0⟩
def defArgs (s : Stmt) : Arguments := match s with
  | .FunctionDef _ a _ _ _ _ _ _ _ _ => a
  | _ => { posonlyargs := [], args := [], vararg := none, kwonlyargs := [], kw_defaults := [], kwarg := none, defaults := [] }
def defBody (s : Stmt) : List Stmt := match s with
  | .FunctionDef _ _ b _ _ _ _ _ _ _ => b
  | _ => []
def defScope (s : Stmt) : Scope := match s with
  | .FunctionDef _ _ _ _ _ _ sc _ _ _ => sc
  | _ => { kind := .function, names := [], isGenerator := false, isCoroutine := false }

/-! ### no exception leaves a def -/
abbrev CX0 : CXT := fun _ _ _ _ _ _ => False
abbrev E0 : XK := fun _ _ _ => False
theorem pass0 {X : Cx} : Passes CX0 X E0 := fun _ _ _ _ _ _ _ h => h.elim

/-! ### a def (or method) of the text as it stands behind the top -/
structure Fun (K : PySem.W.Frag) (x qual : Str) (st : Stmt) (f : Addr) (fd : FuncData) : Prop where
  ex : ∃ (oc : Value) (od : Option Addr) (kV doc pm : Value) (an : Option Addr) (cdv ct : Value) (osl : Array (Option Value)),
    fd = PySem.W.fnOf x qual (defArgs st) (defBody st) (defScope st) .none kV doc pm an cdv ct ∧ K.lookup f = some ⟨oc, od, .func fd, osl⟩ ∧ PySem.W.codeIn K cdv qual = true
  kp : PySem.W.keepIn K (.ref f) = true
section
variable {P : Program} {w : World} {K : PySem.W.Frag} {mg : Str → Option Value} {base : Heap}
/-- THE RULE for a def: its body as a term of rules, and the reading of that term -/
theorem Fun.ok {x qual : Str} {st : Stmt} {f : Addr} {fd : FuncData} {N ps : List Str} {k : Nat} {sp : Sp} (F : Fun K x qual st f fd) (S : FnScope N ps (defScope st)) (len : ∀ vs H Q E, sp vs H Q E → vs.length = ps.length)
    (hbody : ∀ (cdv : Value) (A : Around) (outer : List Env) (s : Shared) (H : Hp) (vs : List V) (Q : VK) (E : XK), Room k (A.deeper (envOfC qual (defScope st) s.heap.objs.size f cdv)) → sp vs H Q E →
      ∃ t, PSs (cxOf CX0 P w K mg base N qual (defScope st) f cdv A outer s H E).nox (defBody st) t ∧ t { nx := fun _ H' => Q .non H', rt := Q } (start N vs) H) : FnOk P w K mg base CX0 (k + 1) f fd ps sp := by
  obtain ⟨oc, od, kV, doc, pm, an, cdv, ct, osl, rfl, lk, hcd⟩ := F.ex
  refine fn_of lk hcd S len fun A outer s H vs Q E hr hsp => ?_
  obtain ⟨t, h, q⟩ := hbody cdv A outer s H vs Q E hr hsp
  exact ⟨t, h.nox, q⟩
/-- how its arguments bind (no defaults): h is «fun _ _ _ _ _ _ us hl => match us, hl with | [_, _], _ => rfl», one _ a parameter -/
theorem Fun.binds {x qual : Str} {st : Stmt} {f : Addr} {fd : FuncData} {ps : List Str} (F : Fun K x qual st f fd)
    (h : ∀ (kV doc pm : Value) (an : Option Addr) (cdv ct : Value) (us : List Value), us.length = ps.length → bindArgs (PySem.W.fnOf x qual (defArgs st) (defBody st) (defScope st) .none kV doc pm an cdv ct) ⟨us, []⟩ = pure (ps.zip us)) : Binds K fd ps [] := by
  obtain ⟨oc, od, kV, doc, pm, an, cdv, ct, osl, rfl, lk, hcd⟩ := F.ex
  exact .all (h kV doc pm an cdv ct)
theorem fun_mk {x qual : Str} {st : Stmt} {f : Addr} {oc : Value} {od an : Option Addr} {osl : Array (Option Value)} {kV doc pm cdv ct : Value} (l : K.lookup f = some ⟨oc, od, .func (PySem.W.fnOf x qual (defArgs st) (defBody st) (defScope st) .none kV doc pm an cdv ct), osl⟩)
    (c : PySem.W.codeIn K cdv qual = true) (k : PySem.W.keepIn K (.ref f) = true) : Fun K x qual st f (PySem.W.fnOf x qual (defArgs st) (defBody st) (defScope st) .none kV doc pm an cdv ct) := ⟨⟨oc, od, kV, doc, pm, an, cdv, ct, osl, rfl, l, c⟩, k⟩
end
/-! ### expressions in short: the name that stands in the i-th slot -/
section
variable {X : Cx}
theorem pv (i : Nat) {x : Str} {pos : Pos} (hN : X.N[i]? = some x := by rfl) (hv : Vis X.env.scope x := by first | exact Or.inl rfl | exact Or.inr (Or.inl rfl) | exact Or.inr (Or.inr rfl)) (hd : (x == ("__debug__" : Str)) = false := by decide)
    (hcd : (x == ("__classdict__" : Str)) = false := by decide) : PE X (.Name x pos) (tVar i) := pe_var hN hv hd hcd
end

/-! ### tests -/
theorem iteF {A B : Prop} (h : B) : if false = true then A else B := by
  rw [if_neg Bool.false_ne_true]
  exact h
theorem iteT {A B : Prop} (h : A) : if true = true then A else B := by
  rw [if_pos rfl]
  exact h
theorem ite2 {c A B : Prop} [Decidable c] (h1 : c → A) (h2 : ¬ c → B) : if c then A else B := by
  by_cases h : c
  · rw [if_pos h]
    exact h1 h
  · rw [if_neg h]
    exact h2 h
theorem iteNS {c A B : Prop} [Decidable c] (hc : c) (h : B) : if (!decide c) = true then A else B := by
  rw [decide_eq_true hc]
  exact iteF h

/-! ### heaps -/
/-- all that was tracked is as it was -/
def Same (H H' : Hp) : Prop := ∀ b o, H b = some o → H' b = some o
theorem Same.refl (H : Hp) : Same H H := fun _ _ h => h
theorem Same.trans {H H1 H2 : Hp} (a : Same H H1) (b : Same H1 H2) : Same H H2 := fun c o h => b c o (a c o h)
theorem Same.free {H H' : Hp} (e : Same H H') {l : Addr} (h : H' l = Option.none) : H l = Option.none := by
  cases q : H l with
  | none => rfl
  | some o =>
    rw [e l o q] at h
    cases h
theorem Same.seq {K : PySem.W.Frag} {H H' : Hp} {a : Addr} {xs : List V} (e : Same H H') (h : SqL K H a xs) : SqL K H' a xs := by
  rcases h with (h | ⟨o, h⟩) | h
  · exact .inl (.inl (e _ _ h))
  · exact .inl (.inr ⟨o, e _ _ h⟩)
  · exact .inr h

/-! ### a dict's pairs: keys that differ -/
section
variable {κ : Type} [DecidableEq κ]
end
end L2

set_option Elab.async false
set_option linter.all false
set_option maxRecDepth 100000
set_option maxHeartbeats 4000000
namespace L2
open PySem PySem.Spec PyProof.Rows

theorem natlt {a n : Addr} (h : a < n) : @LT.lt Nat _ a n := h
/-! ### a comprehension's block -/
/-- the cells that a block takes along -/
def clOf (env : Env) : List (Str × NameKind) → List (Str × Addr) → List (Str × Addr)
  | [], acc => acc
  | (n, k) :: r, acc => if k == .free then clOf env r ((n, (env.cells.lookup n).getD 0) :: acc) else clOf env r acc
theorem closure_eq {env : Env} {scope : Scope} (h : ∀ y ∈ scope.names, y.2 = .free → (env.cells.lookup y.1).isSome = true) : closureFor scope env = pure (clOf env scope.names []) := by
  have go : ∀ (ns : List (Str × NameKind)) (acc : List (Str × Addr)), (∀ y ∈ ns, y.2 = .free → (env.cells.lookup y.1).isSome = true) →
      (forIn ns acc (fun x cs => match x with | (name, kind) => if (kind == .free) = true then do let c ← cellOf env name; pure (ForInStep.yield ((name, c) :: cs)) else pure (ForInStep.yield cs)) : Sem (List (Str × Addr))) = pure (clOf env ns acc) := by
    intro ns
    induction ns with
    | nil => intro acc _; rfl
    | cons y r ih =>
      intro acc hy
      obtain ⟨n, k⟩ := y
      rw [List.forIn_cons]
      by_cases hk : k = .free
      · subst hk
        have hs := hy (n, .free) List.mem_cons_self rfl
        obtain ⟨c, hc⟩ := Option.isSome_iff_exists.mp hs
        have e : cellOf env n = pure c := by unfold cellOf; rw [hc]
        show _ = pure (clOf env r ((n, (env.cells.lookup n).getD 0) :: acc))
        rw [← ih _ fun y hm => hy y (List.mem_cons_of_mem _ hm)]
        simp only [beq_self_eq_true, if_true, e, pure_bind, hc, Option.getD_some]
      · have hb : (k == NameKind.free) = false := by simpa using hk
        have hc : clOf env ((n, k) :: r) acc = clOf env r acc := by
          show (if (k == NameKind.free) = true then _ else _) = _
          rw [if_neg (by rw [hb]; decide)]
        rw [hc, ← ih _ fun y hm => hy y (List.mem_cons_of_mem _ hm)]
        simp only [hb, Bool.false_eq_true, if_false, pure_bind]
  have q := go scope.names [] h
  unfold closureFor
  show (forIn scope.names [] _ >>= fun r => pure r) = _
  rw [bind_pure]
  exact q
theorem clOf_lookup {env : Env} : ∀ (ns : List (Str × NameKind)) (acc : List (Str × Addr)) (x : Str), (∀ y ∈ ns, y.2 = .free → (env.cells.lookup y.1).isSome = true) →
    (clOf env ns acc).lookup x = if (x, NameKind.free) ∈ ns then env.cells.lookup x else acc.lookup x
  | [], acc, x, _ => by simp [clOf]
  | (n, k) :: r, acc, x, h => by
    have hr : ∀ y ∈ r, y.2 = .free → (env.cells.lookup y.1).isSome = true := fun y hm => h y (List.mem_cons_of_mem _ hm)
    by_cases hk : k = .free
    · subst hk
      show (clOf env r ((n, (env.cells.lookup n).getD 0) :: acc)).lookup x = _
      rw [clOf_lookup r _ x hr]
      obtain ⟨c, hc⟩ := Option.isSome_iff_exists.mp (h (n, .free) List.mem_cons_self rfl)
      have hc : env.cells.lookup n = some c := hc
      by_cases hm : (x, NameKind.free) ∈ r
      · rw [if_pos hm, if_pos (List.mem_cons_of_mem _ hm)]
      · rw [if_neg hm]
        by_cases e : x = n
        · subst e
          rw [if_pos List.mem_cons_self, List.lookup_cons, hc]
          simp
        · rw [if_neg (fun z => (List.mem_cons.mp z).elim (fun q => e (congrArg Prod.fst q)) hm), List.lookup_cons]
          have : (x == n) = false := by simpa using e
          rw [this]
    · have hb : (k == NameKind.free) = false := by simpa using hk
      have hc : clOf env ((n, k) :: r) acc = clOf env r acc := by
        show (if (k == NameKind.free) = true then _ else _) = _
        rw [if_neg (by rw [hb]; decide)]
      rw [hc, clOf_lookup r acc x hr]
      have : ((x, NameKind.free) ∈ (n, k) :: r) ↔ (x, NameKind.free) ∈ r := by
        constructor
        · intro z
          rcases List.mem_cons.mp z with q | q
          · exact absurd (congrArg Prod.snd q).symm hk
          · exact q
        · exact List.mem_cons_of_mem _
      simp only [this]

theorem relabel_lookup (env : Env) : ∀ (ns : List (Str × NameKind)) (x : Str),
    (ns.map fun (n, k) => if (k == .free && env.scope.kind == .function && env.kindOf n == some .cell) then (n, NameKind.cell) else (n, k)).lookup x =
      (ns.lookup x).map fun k => if (k == .free && env.scope.kind == .function && env.kindOf x == some .cell) = true then NameKind.cell else k
  | [], x => rfl
  | (n, k) :: r, x => by
    show List.lookup x ((if (k == NameKind.free && env.scope.kind == .function && env.kindOf n == some .cell) = true then (n, NameKind.cell) else (n, k)) :: _) = _
    cases hx : x == n with
    | true =>
      have e : x = n := by simpa using hx
      subst e
      by_cases hc : (k == NameKind.free && env.scope.kind == .function && env.kindOf x == some .cell) = true
      · rw [if_pos hc]; simp only [List.lookup_cons, hx, Option.map_some, if_pos hc]
      · rw [if_neg hc]; simp only [List.lookup_cons, hx, Option.map_some, if_neg hc]
    | false =>
      have ih := relabel_lookup env r x
      by_cases hc : (k == NameKind.free && env.scope.kind == .function && env.kindOf n == some .cell) = true
      · rw [if_pos hc]; simp only [List.lookup_cons, hx]; exact ih
      · rw [if_neg hc]; simp only [List.lookup_cons, hx]; exact ih

/-- the block's names: its own first, then those that it takes along: the outer names at the places caps -/
structure CompScope (N own : List Str) (caps : List Nat) (XN : List Str) (outer scope : Scope) : Prop where
  kind : scope.kind = .function
  nocell : ∀ y ∈ scope.names, y.2 ≠ .cell
  names : ∀ y ∈ scope.names, y.2 = .local → scope.names.lookup y.1 = some .local
  free : ∀ y ∈ scope.names, y.2 = .free → outer.names.lookup y.1 = some .cell ∨ outer.names.lookup y.1 = some .free
  nd : N.Nodup
  len : N.length = own.length + caps.length
  cap : ∀ (j : Nat), j < caps.length → N[own.length + j]? = XN[caps.getD j 0]? ∧ ∃ x, N[own.length + j]? = some x ∧ (x, NameKind.free) ∈ scope.names ∧ scope.names.lookup x = some .free

def st0 (own : List Str) (caps : List Nat) (σ : St) : St := own.map (fun _ => none) ++ caps.map (fun i => (σ[i]?).join)

def cxComp (X : Cx) (scope : Scope) (C : Addr) (N : List Str) (s : Shared) (H : Hp) (fp : List Addr) : Cx :=
  { X with N := N, s₀ := s, H₀ := H, env := compEnvC scope (clOf X.env scope.names []) C X.env, outer := X.stack, ex := fp, fn := fun _ => false, pn := [], xe := fun _ _ => False }

section
variable {X : Cx} {pins : List (Addr × Obj)} {σ : St} {H : Hp} {s : Shared} {scope : Scope} {N own : List Str} {caps : List Nat} {fp : List Addr} {C : Nat}
theorem CompScope.csome (S : CompScope N own caps X.N X.env.scope scope) (ok : X.Ok) : ∀ y ∈ scope.names, y.2 = .free → (X.env.cells.lookup y.1).isSome = true := fun y hy hf => by
  obtain ⟨c, e⟩ := ok.has y.1 (S.free y hy hf)
  rw [e]; rfl
theorem CompScope.csub (S : CompScope N own caps X.N X.env.scope scope) (ok : X.Ok) {x : Str} {c : Addr} (h : (clOf X.env scope.names []).lookup x = some c) : X.env.cells.lookup x = some c := by
  rw [clOf_lookup _ _ _ (S.csome ok)] at h
  split at h
  · exact h
  · simp at h
theorem CompScope.lookFree {S : CompScope N own caps X.N X.env.scope scope} {x : Str} (h : (relabel scope X.env).names.lookup x = some .cell ∨ (relabel scope X.env).names.lookup x = some .free) : (x, NameKind.free) ∈ scope.names := by
  have e := relabel_lookup X.env scope.names x
  have e' : (relabel scope X.env).names.lookup x = (scope.names.lookup x).map fun k => if (k == .free && X.env.scope.kind == .function && X.env.kindOf x == some .cell) = true then NameKind.cell else k := e
  rw [e'] at h
  cases q : scope.names.lookup x with
  | none => rw [q] at h; simp at h
  | some k =>
    have hm := PySem.mem_of_lookup q
    by_cases hk : k = .free
    · subst hk; exact hm
    · rw [q] at h
      have hb : (k == NameKind.free) = false := by simpa using hk
      simp only [Option.map_some, hb, Bool.false_and, Bool.false_eq_true, if_false] at h
      rcases h with h | h
      · exact absurd (Option.some.inj h) (S.nocell _ hm)
      · exact absurd (Option.some.inj h) hk

/-- the block's context is in order, and its names stand -/
theorem Inv.comp {h1 : Heap} {D : Nat} (I : Inv X pins σ H s) (S : CompScope N own caps X.N X.env.scope scope) (hfp : ∀ b ∈ fp, FpOk X pins H b) (hfo : ∀ b ∈ fp, ∃ o, s.heap.get? b = some o)
    (hD : D = s.heap.objs.size) (hC : C = s.heap.objs.size + 1) (old : ∀ b o, s.heap.get? b = some o → h1.get? b = some o) (hns : h1.Ns C (fun _ => none)) (hl : h1.get? D = some { cls := .type "list", data := .seq #[] }) {t : Nat} :
    Inv (cxComp X scope C N s H fp) [] (st0 own caps σ) (upd H D (.lst [])) { s with heap := h1, toks := t } := by
  have some' := S.csome I.ok
  have sub : ∀ {x c}, (clOf X.env scope.names []).lookup x = some c → X.env.cells.lookup x = some c := fun h => S.csub I.ok h
  have freshD : H D = none := I.hok.fresh (by rw [hD]; exact Nat.le_refl _)
  have freshC : H C = none := I.hok.fresh (by rw [hC]; exact Nat.le_succ _)
  have cellLt : ∀ x c, X.env.cells.lookup x = some c → c < s.heap.objs.size := fun x c e => by
    obtain ⟨v, z⟩ := I.cell x c e
    exact z.lt
  have fpLt : ∀ b ∈ fp, b < s.heap.objs.size := fun b hb => by
    obtain ⟨o, e⟩ := hfo b hb
    exact Heap.lt_size e
  have DC : D ≠ C := by omega
  refine ⟨⟨I.ok.mod, S.kind, I.ok.glob, I.ok.blt, by show s.heap.objs.size ≤ C; omega, fun x y c e1 e2 => I.ok.inj x y c (sub e1) (sub e2), fun x h => ?_, fun x c h => (by cases h), I.ok.hd, I.ok.frames, Or.inl rfl, fun b hb => ⟨?_, fun x c e => ?_⟩, I.bs, Nat.le_trans I.ok.bsz I.sz, fun b o e hb => ?_, fun b hb z => ?_, I.stack, I.stkFree⟩,
    rfl, I.bare, Un.laid old (by show s.heap.objs.size ≤ D; omega) freshD, ⟨_, hns, fun j x v e1 e2 e3 => ?_⟩, fun x c e => ?_, ?_, fun x c e => ?_, fun p hp => ?_, I.hok.laid old (by omega) ?_, ?_⟩
  · have hm := CompScope.lookFree (S := S) (X := X) h
    obtain ⟨c, e⟩ := Option.isSome_iff_exists.mp (some' _ hm rfl)
    exact ⟨c, by show (clOf X.env scope.names []).lookup x = _; rw [clOf_lookup _ _ _ some', if_pos hm]; exact e⟩
  · exact Nat.ne_of_lt (show @LT.lt Nat _ b C by have := natlt (fpLt b hb); omega)
  · exact (hfp b hb).2.2.2.2.1 x c (sub e)
  · rcases (hfp b hb).2.2.2.1 with z | z
    · exact I.ok.noex b o e z
    · exact absurd (Nat.lt_of_lt_of_le (Heap.lt_size e) (Nat.le_trans I.ok.bsz z)) (Nat.lt_irrefl _)
  · rcases List.mem_cons.mp (I.stkSub b z) with q | q
    · exact (hfp b hb).2.1 q
    · exact (hfp b hb).2.2.1 q
  · have e1 : N[j]? = some x := e1
    have hj : own.length ≤ j := by
      by_cases q : own.length ≤ j
      · exact q
      · exfalso
        unfold st0 at e2
        rw [List.getElem?_append_left (by simp; omega), List.getElem?_map] at e2
        cases r : own[j]? with
        | none => rw [r] at e2; cases e2
        | some a => rw [r] at e2; cases e2
    have hjl : j < N.length := (List.getElem?_eq_some_iff.mp e1).1
    have hjc : j - own.length < caps.length := by have := S.len; omega
    obtain ⟨c1, x', c2, c3, c4⟩ := S.cap (j - own.length) hjc
    rw [show own.length + (j - own.length) = j by omega] at c1 c2
    rw [e1] at c2
    cases c2
    have e2' : (σ[caps.getD (j - own.length) 0]?).join = some v := by
      unfold st0 at e2
      rw [List.getElem?_append_right (by simp; omega), List.getElem?_map, List.length_map] at e2
      rw [List.getD_eq_getElem?_getD]
      cases r : caps[j - own.length]? with
      | none => rw [r] at e2; cases e2
      | some a => rw [r] at e2; exact Option.some.inj e2
    have e2'' : σ[caps.getD (j - own.length) 0]? = some (some v) := by
      cases r : σ[caps.getD (j - own.length) 0]? with
      | none => rw [r] at e2'; cases e2'
      | some a => rw [r] at e2'; exact congrArg Option.some e2'
    have kx : X.env.kindOf x = some .cell ∨ X.env.kindOf x = some .free := S.free _ c3 rfl
    obtain ⟨m, hn, hl'⟩ := I.loc
    obtain ⟨u, r, l⟩ := hl' _ x v (by rw [← c1]; exact e1) e2'' (by rcases kx with z | z; exact .inr (.inl z); exact .inr (.inr z))
    refine ⟨u, r, .inr ⟨?_, ?_⟩⟩
    · show (relabel scope X.env).names.lookup x = some .cell ∨ (relabel scope X.env).names.lookup x = some .free
      have e : (relabel scope X.env).names.lookup x = (scope.names.lookup x).map fun k => if (k == .free && X.env.scope.kind == .function && X.env.kindOf x == some .cell) = true then NameKind.cell else k := relabel_lookup X.env scope.names x
      rw [e, c4, Option.map_some]
      split
      · exact .inl rfl
      · exact .inr rfl
    · rcases l with ⟨hk, _⟩ | ⟨_, c, hc, z⟩
      · rcases kx with q | q <;> rw [hk] at q <;> cases q
      · refine ⟨c, ?_, ?_⟩
        · show (clOf X.env scope.names []).lookup x = _
          rw [clOf_lookup _ _ _ some', if_pos c3]; exact hc
        · obtain ⟨o, ho, hd⟩ := z
          exact ⟨o, old c o ho, hd⟩
  · obtain ⟨v, o, ho, hd⟩ := I.cell x c (sub e)
    exact ⟨v, o, old c o ho, hd⟩
  · show upd H D (.lst []) C = none
    rw [upd_ne DC.symm]; exact freshC
  · show upd H D (.lst []) c = none
    rw [upd_ne (Nat.ne_of_lt (by have := natlt (cellLt x c (sub e)); omega))]; exact I.freeC x c (sub e)
  · cases hp
  · exact ⟨Nat.zero_le _, [], 0, .nil, hl⟩
  · show (own.map (fun _ => none) ++ caps.map _).length = N.length
    rw [List.length_append, List.length_map, List.length_map, S.len]

/-- behind the block -/
theorem Inv.uncomp {pins' : List (Addr × Obj)} {σ' : St} {H' : Hp} {s' : Shared} {h' : Heap} (I : Inv X pins σ H s) (hfp : ∀ b ∈ fp, FpOk X pins H b) (hC : s.heap.objs.size ≤ C) (J : Inv (cxComp X scope C N s H fp) pins' σ' H' s') (hs : Heap.SameBut C s'.heap h') :
    Inv X pins σ H' { s' with heap := h' } := by
  have nC : ∀ b o, s.heap.get? b = some o → b ≠ C := fun b o e => Nat.ne_of_lt (by have := natlt (Heap.lt_size e); omega)
  have u := J.base
  have frC : H' C = none := J.free
  refine I.call' (ch := fp) (s' := { s' with heap := h' }) J.os ⟨fun b o e n hb hx => ?_, fun b o e n hb hx => ?_, u.free, fun b o e hx => ?_, u.tups, u.frzs, u.tbls⟩ (fun a o e => (J.hok a o e).stay (fun b v hb q => ?_) (fun _ q => q) fun _ _ q => q) J.bare fun b hb => ?_
  · exact (hs.2 b (nC b o e)).trans (u.keep b o e n hb hx)
  · obtain ⟨sl, q⟩ := u.slot b o e n hb hx
    exact ⟨sl, (hs.2 b (nC b o e)).trans q⟩
  · obtain ⟨o', q⟩ := u.there b o e hx
    exact ⟨o', (hs.2 b (nC b o e)).trans q⟩
  · refine (hs.2 b ?_).trans q
    intro z
    subst z
    rcases hb with z | z
    · subst z; rw [frC] at e; cases e
    · rw [frC] at z; cases z
  · exact ⟨(hfp b hb).2.2.2.1, (hfp b hb).2.1, (hfp b hb).2.2.2.2.1, (hfp b hb).2.2.2.2.2⟩
end

section
variable {prog : Program} {w : World} {A : Around} {R : Result → Shared → Prop} {s : Shared}
theorem compLoop_any {elt target iter : Expr} {ifs : List Expr} {scope : Scope} {pos : Pos} {it acc : Value} {env : Env} (I : Nat → Shared → Prop)
    (turn : ∀ n s, I n s → wpAny (model prog w) A (pyNext it) (fun r s1 => match r with
      | none => R (.ok .next) s1
      | some v => wpAny (model prog w) A (letOwnedTupleGo target it v) (fun _ s1' => wpAny (model prog w) A (assign target env v) (fun _ s2 =>
          wpAny (model prog w) A (forIn ifs true fun c r => if r = true then do let ok ← isTrue c env (eval c env); pure (ForInStep.yield ok) else pure (ForInStep.yield r)) (fun ok s3 =>
            if ok = true then wpAny (model prog w) A (eval elt env) (fun x s4 =>
              wpAny (model prog w) A (call (.builtin "list.append") [acc, x]) (fun _ s5 => ∃ m, m < n ∧ I m s5) (fun _ _ => False) s4) (fun _ _ => False) s3
            else ∃ m, m < n ∧ I m s3) (fun _ _ => False) s2) (fun _ _ => False) s1') (fun _ _ => False) s1) (fun _ _ => False) s)
    (n : Nat) (h : I n s) :
    codeAny (model prog w) A (.compLoop (.ListComp elt [⟨target, iter, ifs, 0⟩] scope pos) 0 it acc env) R s := by
  refine codeAny_loop rfl I (fun n s hI => ?_) n h
  show wpAny _ A ((compTurn (.ListComp elt [⟨target, iter, ifs, 0⟩] scope pos) 0 it acc env).onRaise (fun x => do noteFrame x env; theTreesLotGoes x)) _ _ s
  refine wpAny_noted ?_
  rw [compTurn_list]
  refine wpAny_bind (wpAny_standAt (wpAny_bind (wpAny_mono (turn n s hI) (fun r s1 h1 => ?_) fun _ _ h' => h'.elim)))
  cases r with
  | none => exact wpAny_pure h1
  | some v =>
    refine wpAny_bind (wpAny_mono h1 (fun _ s1' h1' => ?_) fun _ _ h' => h'.elim)
    refine wpAny_bind (wpAny_mono h1' (fun _ s2 h2 => wpAny_bind (wpAny_mono h2 (fun ok s3 h3 => ?_) fun _ _ h' => h'.elim)) fun _ _ h' => h'.elim)
    cases ok with
    | false => exact wpAny_pure ⟨rfl, h3⟩
    | true =>
      exact wpAny_bind (wpAny_bind (wpAny_mono h3 (fun x s4 h4 => wpAny_bind (wpAny_mono h4 (fun _ s5 h5 => wpAny_pure (wpAny_pure ⟨rfl, h5⟩)) fun _ _ h' => h'.elim)) fun _ _ h' => h'.elim))
end

/-- the tests of a comprehension -/
def PTs (X : Cx) (ifs : List Expr) (t : TT) : Prop :=
  ∀ (pins : List (Addr × Obj)) (s : Shared) (σ : St) (H : Hp) (Q : Bool → Hp → Prop), Inv X pins σ H s → t σ H Q →
    wpAny (model X.prog X.w) X.A (forIn ifs true fun c r => if r = true then do let ok ← isTrue c X.env (eval c X.env); pure (ForInStep.yield ok) else pure (ForInStep.yield r)) (TP X pins σ Q) X.xe s
def tAll : TT := fun _ H Q => Q true H
theorem pts_nil {X : Cx} : PTs X [] tAll := fun _ _ _ H _ I h => wpAny_tests_nil ⟨H, I, h⟩
theorem pts_one {X : Cx} {c : Expr} {t : TT} (h : PT X c t) : PTs X [c] t := fun pins s σ H Q I q => wpAny_tests_one (h pins s σ H Q I q)

/-- [e for target in iter if c]: W between two turns; the list grows at D; N: what the turn is to reach -/
def CompW (J : It) (g : TG) (tc : TT) (te : TE) (Q : VK) (D : Addr) (σ0 : St) (H1 : Hp) : Prop :=
  ∃ W : Nat → Nat → St → Hp → Prop, (∃ m, W 0 m σ0 (upd H1 D (.lst []))) ∧ ∀ i m σ H, W i m σ H →
    (J.stop i H ∧ Q (.ref D) H) ∨ (J.go i H ∧ ∃ N : St → Hp → Prop, (∀ σ' H', N σ' H' → ∃ m', m' < m ∧ W (i + 1) m' σ' H') ∧ ∀ x H', J.yld i H x H' → g x σ H' fun σ2 H2 => tc σ2 H2 fun b H3 =>
      if b = true then te σ2 H3 fun y H4 => ∃ acc, H4 D = some (.lst acc) ∧ acc.length < sizeLine ∧ N σ2 (upd H4 D (.lst (acc ++ [y]))) else N σ2 H3)
def tComp (own : List Str) (caps : List Nat) (wi : TI) (g : TG) (tc : TT) (te : TE) : TE := fun σ H Q => wi σ H fun J H1 => ∀ D, H1 D = none → CompW J g tc te Q D (st0 own caps σ) H1

section
variable {X : Cx} {elt tg iter : Expr} {ifs : List Expr} {scope : Scope} {pos : Pos} {N own : List Str} {caps : List Nat} {wi : TI} {g : TG} {tc : TT} {te : TE}
/-- the block run: from the iterator to the list -/
theorem comp_run {use : Option (Value → Sem Unit)} {Qv : Value → Shared → Prop} {pins : List (Addr × Obj)} {σ : St} {H : Hp} {s : Shared} {Q : VK} (hc : X.calm = true) (S : CompScope N own caps X.N X.env.scope scope)
    (hg : ∀ C s H fp, PG (cxComp X scope C N s H fp) tg g) (hcs : ∀ C s H fp, PTs (cxComp X scope C N s H fp) ifs tc) (he : ∀ C s H fp, PE (cxComp X scope C N s H fp) elt te)
    (hi : PI X tg iter wi) (hs : ∀ x, foldedSetIterable iter X.env x = pure x)
    (I : Inv X pins σ H s) (h : tComp own caps wi g tc te σ H Q)
    (fin : ∀ (D C : Addr) (H' : Hp) (s' : Shared), (∃ m, s'.heap.Ns C m) → Inv X pins σ H' s' → (∀ h', Heap.SameBut C s'.heap h' → Inv X pins σ H' { s' with heap := h' }) → FpOk X pins H' C → Q (.ref D) H' →
      compPost (model X.prog X.w) X.A X.xe use Qv (.ref D) C (.ok .next) s') :
    wpAny (model X.prog X.w) X.A (comprehension (.ListComp elt [⟨tg, iter, ifs, 0⟩] scope pos) scope X.env (firstIterPos [⟨tg, iter, ifs, 0⟩] pos) (newList []) false (eval iter X.env) use) Qv X.xe s := by
  refine wpAny_comprehension_free (use := use) rfl hs (closure_eq (S.csome I.ok)) S.kind S.names (thn (hi pins s σ H _ I h) fun xv s1 h1 => thn h1 fun itv s2 h2 => ?_)
  obtain ⟨it, fp, tn, J, H2, e, I2, T, st2, f2, q2⟩ := h2
  subst e
  refine wpAny_newList ?_
  refine wpAny_newFunctionEnv S.nocell (by intro y hy; simp at hy) (fun h1 hns1 hsb1 => ?_) S.kind
  dsimp only at hns1 hsb1 ⊢
  have hD : H2 s2.heap.objs.size = none := I2.hok.fresh (Nat.le_refl _)
  have hsz : (s2.heap.push { cls := .type "list", data := .seq ([] : List Value).toArray }).objs.size = s2.heap.objs.size + 1 := Heap.size_push ..
  have old : ∀ b o, s2.heap.get? b = some o → h1.get? b = some o := fun b o e => by
    refine hsb1.extBut b o (Nat.ne_of_lt (by have := natlt (Heap.lt_size e); rw [hsz]; omega)) (Heap.get?_push_of_some _ (Heap.get?_push_of_some _ e))
  have hl : h1.get? s2.heap.objs.size = some { cls := .type "list", data := .seq #[] } :=
    hsb1.extBut _ _ (Nat.ne_of_lt (by rw [hsz]; omega)) (Heap.get?_push_of_some _ (Heap.get?_push_size _ rfl))
  have hfo : ∀ b ∈ fp, ∃ o, s2.heap.get? b = some o := fun b hb => let ⟨o, e, _⟩ := T.obj _ _ st2 b hb; ⟨o, e⟩
  have I4 := Inv.comp (C := (s2.heap.push { cls := .type "list", data := .seq ([] : List Value).toArray }).objs.size) (t := s2.toks + ([] : List (Str × Value)).length) I2 S f2 hfo rfl hsz old hns1 hl
  obtain ⟨W, ⟨m0, w0⟩, turn⟩ := q2 _ hD
  generalize hCe : (s2.heap.push { cls := .type "list", data := .seq ([] : List Value).toArray }).objs.size = C at *
  generalize hDe : s2.heap.objs.size = D at *
  have hDC : D ≠ C := by omega
  -- the loop
  have loop : ∀ s3 : Shared, s3 = { s2 with heap := h1, toks := s2.toks + ([] : List (Str × Value)).length } →
      codeAny (model X.prog X.w) X.A (.compLoop (.ListComp elt [⟨tg, iter, ifs, 0⟩] scope pos) 0 (.ref it) (.ref D) (cxComp X scope C N s2 H2 fp).env) (compPost (model X.prog X.w) X.A X.xe use Qv (.ref D) C) s3 := by
    rintro s3 rfl
    have frz : ∀ b ∈ fp, (upd H2 D (.lst [])) b = none := fun b hb => by
      obtain ⟨o, e⟩ := hfo b hb
      rw [upd_ne (Nat.ne_of_lt (by have := natlt (Heap.lt_size e); omega))]
      exact (f2 b hb).1
    have stat : ∀ {H' : Hp}, (∀ b ∈ fp, H' b = none) → ∀ b ∈ fp, FpOk (cxComp X scope C N s2 H2 fp) [] H' b := fun hn b hb => by
      obtain ⟨o, e⟩ := hfo b hb
      have hlt := natlt (Heap.lt_size e)
      refine ⟨hn b hb, ?_, fun z => ?_, .inl hb, fun x c e' => (f2 b hb).2.2.2.2.1 x c (S.csub I2.ok e'), fun p hp => (by cases hp)⟩
      · exact Nat.ne_of_lt (show @LT.lt Nat _ b C by omega)
      · rcases List.mem_cons.mp (I2.stkSub b z) with q | q
        · exact (f2 b hb).2.1 q
        · exact (f2 b hb).2.2.1 q
    refine compLoop_any (fun n s' => ∃ i σ' H', Inv (cxComp X scope C N s2 H2 fp) [] σ' H' s' ∧ tn i s'.heap ∧ (∀ b ∈ fp, H' b = none) ∧ W i n σ' H') ?_ m0
      ⟨0, _, _, I4, T.keep _ _ _ st2 fun b _ o e => old b o e, frz, w0⟩
    rintro n s3 ⟨i, σ3, H3, I3, st3, fr3, w3⟩
    rcases turn i n σ3 H3 w3 with ⟨stop, qn⟩ | ⟨go, Nx, hNx, step⟩
    · refine thn (T.done (cxComp X scope C N s2 H2 fp) rfl rfl rfl hc i [] s3 σ3 H3 _ I3 (stat fr3) st3 stop) fun r s4 ⟨hr, J4⟩ => ?_
      subst hr
      obtain ⟨m4, hn4, _⟩ := J4.loc
      exact fin D C H3 s4 ⟨m4, hn4⟩ (I2.uncomp f2 (by omega) J4 (Heap.SameBut.refl _ _)) (fun h' hs' => I2.uncomp f2 (by omega) J4 hs') (I2.fpOk (show s2.heap.objs.size ≤ C by omega) J4.free) qn
    · refine thn (T.item (cxComp X scope C N s2 H2 fp) rfl rfl rfl hc i [] s3 σ3 H3 _ I3 (stat fr3) st3 go) fun r s4 ⟨u, hr, h4⟩ => ?_
      subst hr
      refine thn h4 fun _ s5 ⟨x, H5, I5, r5, y5, st5, fr5⟩ => ?_
      have I5' := I5.pinned (stat fr5) (T.obj _ _ st5)
      refine thn (hg C s2 H2 fp _ s5 σ3 H5 x u _ I5' r5 (step x H5 y5)) fun _ s6 ⟨σ6, H6, I6, q6⟩ => ?_
      refine thn (hcs C s2 H2 fp _ s6 σ6 H6 _ I6 q6) fun ok s7 ⟨H7, I7, q7⟩ => ?_
      have again : ∀ {σ8 : St} {H8 : Hp} {s8 : Shared}, Inv (cxComp X scope C N s2 H2 fp) ([] ++ pinsAt fp s5.heap) σ8 H8 s8 → Nx σ8 H8 → ∃ m, m < n ∧ ∃ i σ' H', Inv (cxComp X scope C N s2 H2 fp) [] σ' H' s8 ∧ tn i s8.heap ∧ (∀ b ∈ fp, H' b = none) ∧ W i m σ' H' := fun {σ8 H8 s8} I8 n8 => by
        obtain ⟨m', hm, w8⟩ := hNx _ _ n8
        refine ⟨m', hm, i + 1, σ8, H8, I8.unpinned, T.keep _ _ _ st5 fun b hb o e => (I8.pin (b, o) (List.mem_append_right _ (List.mem_append_right _ (mem_pinsAt hb e)))).1, fun b hb => ?_, w8⟩
        obtain ⟨o, e, d⟩ := T.obj _ _ st5 b hb
        exact (I8.pin (b, o) (List.mem_append_right _ (List.mem_append_right _ (mem_pinsAt hb e)))).2.1
      cases ok with
      | false =>
        rw [if_neg (by decide)] at q7
        exact again I7 q7
      | true =>
        rw [if_pos rfl] at q7
        refine thn (he C s2 H2 fp _ s7 σ6 H7 _ I7 q7) fun y s8 ⟨yv, H8, I8, r8, acc, ha, hlen, q8⟩ => ?_
        exact thn (mt_append _ s8 σ6 H8 (.ref D) [yv] (.ref D) [y] (fun v H9 => Nx σ6 H9) I8 rfl (.cons r8 .nil) ⟨D, acc, yv, rfl, rfl, ha, hlen, q8⟩) fun _ s9 ⟨_, H9, I9, _, q9⟩ => again I9 q9
  exact codeAny_compStart_list (loop _ rfl) (T.self _ 0 _ _ _ (T.keep _ _ _ st2 fun b _ o e => old b o e) (loop _ rfl))

theorem pe_comp (hc : X.calm = true) (S : CompScope N own caps X.N X.env.scope scope) (hi : PI X tg iter wi)
    (hg : ∀ C s H fp, PG (cxComp X scope C N s H fp) tg g) (hcs : ∀ C s H fp, PTs (cxComp X scope C N s H fp) ifs tc) (he : ∀ C s H fp, PE (cxComp X scope C N s H fp) elt te)
    (hs : ∀ x, foldedSetIterable iter X.env x = pure x := by intro _; rfl) : PE X (.ListComp elt [⟨tg, iter, ifs, 0⟩] scope pos) (tComp own caps wi g tc te) := by
  intro pins s σ H Q I h
  rw [eval_ListComp]
  refine comp_run (use := none) hc S hg hcs he hi hs I h ?_
  intro D C H' s' hn I' hk _ q
  obtain ⟨m, hn⟩ := hn
  exact ⟨m, hn, fun h' hs' => ⟨.ref D, H', hk h' hs', rfl, q⟩⟩
/-- x = [e for ..] on one row: the name is stored ahead of the block's names being let go -/
theorem ps_setC {i : Nat} {x : Str} {px sp : Pos} (hc : X.calm = true) (hN : X.N.Nodup) (hx : X.N[i]? = some x) (hl : Loc X.env.scope x) (S : CompScope N own caps X.N X.env.scope scope) (hi : PI X tg iter wi)
    (hg : ∀ C s H fp, PG (cxComp X scope C N s H fp) tg g) (hcs : ∀ C s H fp, PTs (cxComp X scope C N s H fp) ifs tc) (he : ∀ C s H fp, PE (cxComp X scope C N s H fp) elt te)
    (hsw : swapsWith (.ListComp elt [⟨tg, iter, ifs, 0⟩] scope pos) (some (.Name x px)) sp.line X.env = pure true := by rfl)
    (hs : ∀ x, foldedSetIterable iter X.env x = pure x := by intro _; rfl) (hf : X.fn x = true ∨ X.env.scope.names.lookup x = some .local := by first | exact .inl rfl | exact .inr rfl | assumption) :
    PS X (.Assign [.Name x px] (.ListComp elt [⟨tg, iter, ifs, 0⟩] scope pos) sp) (tAsg (tComp own caps wi g tc te) (gName i)) := by
  intro pins s σ H D I h
  rw [exec_Assign_Name_used _ _ _ _ hsw]
  refine wpAny_bind (wpAny_standAt (wpAny_bind ?_))
  show wpAny _ X.A (do let _ ← comprehension (.ListComp elt [⟨tg, iter, ifs, 0⟩] scope pos) scope X.env (firstIterPos [⟨tg, iter, ifs, 0⟩] pos) (newList []) false (eval iter X.env) (some (assign (.Name x px) X.env))) _ _ s
  refine wpAny_bind (wpAny_mono (comp_run (use := some (assign (.Name x px) X.env)) (Qv := fun _ s' => SP X pins D .next s') hc S hg hcs he hi hs I h ?_) (fun _ s' hq => wpAny_pure (wpAny_pure hq)) fun _ _ e => e)
  intro E C H' s' hn I' hk fC q
  obtain ⟨m, hn⟩ := hn
  obtain ⟨f0, f1, f2, f3, f4, f5⟩ := fC
  show wpAny _ X.A (assign (.Name x px) X.env (.ref E)) _ _ _
  refine wpAny_assign_Name (store_ok2 I' hN hx hl (v := .ref E) rfl (fun s2 I2 k => ?_) hf)
  refine ⟨m, ?_, fun h' hs' => ?_⟩
  · obtain ⟨o, es, ep, ho, r⟩ := hn
    obtain ⟨a, ks, ka⟩ := k
    have hCa : C ≠ a := fun z => by
      rcases ka with q' | q'
      · exact f1 (z.trans q')
      · exact f4 x a q' z.symm
    exact ⟨o, es, ep, (ks.2 C hCa).trans ho, r⟩
  · exact ⟨_, H', I2.turned (t' := s2.toks) (fun b o hb e => (hs'.2 b hb).trans e) f0 f1 f3 f4 f5, q⟩
end
/-- the names of a block, checked -/
def compOk (N own : List Str) (caps : List Nat) (XN : List Str) (outer scope : Scope) : Bool :=
  decide (scope.kind = .function) && scope.names.all (fun y => decide (y.2 ≠ .cell)) && scope.names.all (fun y => decide (y.2 ≠ .local) || decide (scope.names.lookup y.1 = some .local)) &&
  scope.names.all (fun y => decide (y.2 ≠ .free) || decide (outer.names.lookup y.1 = some .cell) || decide (outer.names.lookup y.1 = some .free)) && decide N.Nodup && decide (N.length = own.length + caps.length) &&
  (List.range caps.length).all (fun j => match N[own.length + j]? with | some x => decide (XN[caps.getD j 0]? = some x) && decide ((x, NameKind.free) ∈ scope.names) && decide (scope.names.lookup x = some .free) | none => false)
theorem CompScope.of {N own : List Str} {caps : List Nat} {XN : List Str} {outer scope : Scope} (h : compOk N own caps XN outer scope = true) : CompScope N own caps XN outer scope := by
  unfold compOk at h
  simp only [Bool.and_eq_true, decide_eq_true_eq, List.all_eq_true, Bool.or_eq_true] at h
  obtain ⟨⟨⟨⟨⟨⟨h1, h2⟩, h3⟩, h4⟩, h5⟩, h6⟩, h7⟩ := h
  refine ⟨h1, h2, fun y hy e => ?_, fun y hy e => ?_, h5, h6, fun j hj => ?_⟩
  · rcases h3 y hy with z | z
    · exact absurd e z
    · exact z
  · rcases h4 y hy with (z | z) | z
    · exact absurd e z
    · exact .inl z
    · exact .inr z
  · have q := h7 j (List.mem_range.mpr hj)
    cases e : N[own.length + j]? with
    | none => rw [e] at q; cases q
    | some x =>
      rw [e] at q
      simp only [Bool.and_eq_true, decide_eq_true_eq] at q
      exact ⟨q.1.1.symm, x, rfl, q.1.2, q.2⟩
end L2
set_option Elab.async false
set_option linter.all false
set_option maxRecDepth 100000
set_option maxHeartbeats 4000000
namespace L2
open PySem PySem.Spec PyProof.Rows

/-! ### plain data at a heap -/
mutual
def Dat (H : Hp) : V → PyData → Prop
  | v, .none => v = .non
  | v, .bool b => v = .bl b
  | v, .int i => v = .int i
  | v, .str x => v = .str x
  | v, .list ds => ∃ a vs, v = .ref a ∧ H a = some (.lst vs) ∧ Dats H vs ds
  | v, .tuple ds => ∃ a vs, v = .ref a ∧ H a = some (.tup vs) ∧ Dats H vs ds
  | _, .dict _ => False
def Dats (H : Hp) : List V → List PyData → Prop
  | [], [] => True
  | v :: vs, d :: ds => Dat H v d ∧ Dats H vs ds
  | [], _ :: _ => False
  | _ :: _, [] => False
end
section
variable {H H' : Hp}
theorem Dats.length : ∀ {vs : List V} {ds : List PyData}, Dats H vs ds → vs.length = ds.length
  | [], [], _ => rfl
  | _ :: _, _ :: _, h => by simp only [Dats] at h; simp [Dats.length h.2]
  | [], _ :: _, h => by simp only [Dats] at h
  | _ :: _, [], h => by simp only [Dats] at h
theorem Dats.get : ∀ {vs : List V} {ds : List PyData} {i : Nat} {v : V}, Dats H vs ds → vs[i]? = some v → ∃ d, ds[i]? = some d ∧ Dat H v d
  | _ :: _, _ :: _, 0, _, h, e => by simp only [Dats] at h; simp at e; subst e; exact ⟨_, rfl, h.1⟩
  | _ :: _, _ :: _, i + 1, _, h, e => by simp only [Dats] at h; simp at e; obtain ⟨d, q, r⟩ := Dats.get h.2 e; exact ⟨d, by simpa using q, r⟩
  | [], [], _, _, _, e => by simp at e
  | [], _ :: _, _, _, h, _ => by simp only [Dats] at h
  | _ :: _, [], _, _, h, _ => by simp only [Dats] at h
theorem Dats.append : ∀ {vs ws : List V} {ds es : List PyData}, Dats H vs ds → Dats H ws es → Dats H (vs ++ ws) (ds ++ es)
  | [], _, [], _, _, g => g
  | _ :: _, _, _ :: _, _, h, g => by simp only [Dats, List.cons_append] at h ⊢; exact ⟨h.1, Dats.append h.2 g⟩
  | [], _, _ :: _, _, h, _ => by simp only [Dats] at h
  | _ :: _, _, [], _, h, _ => by simp only [Dats] at h
theorem Dats.ints (ns : List Int) : Dats H (ns.map V.int) (ns.map PyData.int) := by
  induction ns with
  | nil => simp only [List.map_nil, Dats]
  | cons n r ih => simp only [List.map_cons, Dats, Dat]; exact ⟨trivial, ih⟩
mutual
theorem Dat.mono (hl : ∀ a xs, H a = some (HO.lst xs) → H' a = some (HO.lst xs)) (ht : ∀ a xs, H a = some (HO.tup xs) → H' a = some (HO.tup xs)) : ∀ (d : PyData) {v : V}, Dat H v d → Dat H' v d
  | .none, _, h => by simp only [Dat] at h ⊢; exact h
  | .bool _, _, h => by simp only [Dat] at h ⊢; exact h
  | .int _, _, h => by simp only [Dat] at h ⊢; exact h
  | .str _, _, h => by simp only [Dat] at h ⊢; exact h
  | .list ds, _, h => by simp only [Dat] at h ⊢; obtain ⟨a, vs, e, q, r⟩ := h; exact ⟨a, vs, e, hl _ _ q, Dats.mono hl ht ds r⟩
  | .tuple ds, _, h => by simp only [Dat] at h ⊢; obtain ⟨a, vs, e, q, r⟩ := h; exact ⟨a, vs, e, ht _ _ q, Dats.mono hl ht ds r⟩
  | .dict _, _, h => by simp only [Dat] at h
theorem Dats.mono (hl : ∀ a xs, H a = some (HO.lst xs) → H' a = some (HO.lst xs)) (ht : ∀ a xs, H a = some (HO.tup xs) → H' a = some (HO.tup xs)) : ∀ (ds : List PyData) {vs : List V}, Dats H vs ds → Dats H' vs ds
  | [], [], _ => by simp only [Dats]
  | d :: ds, v :: vs, h => by simp only [Dats] at h ⊢; exact ⟨Dat.mono hl ht d h.1, Dats.mono hl ht ds h.2⟩
  | _ :: _, [], h => by simp only [Dats] at h
  | [], _ :: _, h => by simp only [Dats] at h
end
mutual
/-- no list within -/
def imm : PyData → Bool
  | .tuple ds => imms ds
  | .list _ | .dict _ => false
  | .none | .bool _ | .int _ | .str _ => true
def imms : List PyData → Bool
  | [] => true
  | d :: ds => imm d && imms ds
end
mutual
theorem Dat.keep (ht : ∀ a xs, H a = some (HO.tup xs) → H' a = some (HO.tup xs)) : ∀ (d : PyData) {v : V}, imm d = true → Dat H v d → Dat H' v d
  | .none, _, _, h => by simp only [Dat] at h ⊢; exact h
  | .bool _, _, _, h => by simp only [Dat] at h ⊢; exact h
  | .int _, _, _, h => by simp only [Dat] at h ⊢; exact h
  | .str _, _, _, h => by simp only [Dat] at h ⊢; exact h
  | .list ds, _, i, h => by simp only [imm] at i; cases i
  | .tuple ds, _, i, h => by simp only [Dat] at h ⊢; simp only [imm] at i; obtain ⟨a, vs, e, q, r⟩ := h; exact ⟨a, vs, e, ht _ _ q, Dats.keep ht ds i r⟩
  | .dict _, _, _, h => by simp only [Dat] at h
theorem Dats.keep (ht : ∀ a xs, H a = some (HO.tup xs) → H' a = some (HO.tup xs)) : ∀ (ds : List PyData) {vs : List V}, imms ds = true → Dats H vs ds → Dats H' vs ds
  | [], [], _, _ => by simp only [Dats]
  | d :: ds, v :: vs, i, h => by simp only [Dats] at h ⊢; simp only [imms, Bool.and_eq_true] at i; exact ⟨Dat.keep ht d i.1 h.1, Dats.keep ht ds i.2 h.2⟩
  | _ :: _, [], _, h => by simp only [Dats] at h
  | [], _ :: _, _, h => by simp only [Dats] at h
end
theorem imms_map {α : Type} (f : α → PyData) (h : ∀ x, imm (f x) = true) : ∀ l : List α, imms (l.map f) = true
  | [] => rfl
  | a :: l => by simp only [List.map_cons, imms, h a, imms_map f h l, Bool.and_self]
end

section
variable {X : Cx} {pins : List (Addr × Obj)} {σ : St} {H : Hp} {s : Shared}
mutual
theorem Inv.reads (I : Inv X pins σ H s) : ∀ (d : PyData) {v : V} {u : Value}, Dat H v d → RelV v u → ∃ as, Reads s.heap u d as
  | .none, v, u, h, r => by
    simp only [Dat] at h; subst h; cases (show u = Value.none from r); exact ⟨_, .none⟩
  | .bool b, v, u, h, r => by
    simp only [Dat] at h; subst h; cases (show u = Value.bool b from r); exact ⟨_, .bool b⟩
  | .int i, v, u, h, r => by
    simp only [Dat] at h; subst h; obtain ⟨t, q⟩ := (show ∃ t, u = Value.int i t from r); cases q; exact ⟨_, .int i t⟩
  | .str x, v, u, h, r => by
    simp only [Dat] at h; subst h; obtain ⟨t, q⟩ := (show ∃ t, u = Value.str x t from r); cases q; exact ⟨_, .str x t⟩
  | .list ds, v, u, h, r => by
    simp only [Dat] at h
    obtain ⟨a, vs, rfl, q, g⟩ := h
    cases (show u = Value.ref a from r)
    obtain ⟨its, rv, p, hz⟩ := I.list (SqL.of q)
    obtain ⟨o, ho, hc, n, hd⟩ := p.isList
    obtain ⟨as, ra⟩ := Inv.readsAll I ds g rv
    exact ⟨_, .list ho hc hd (by simpa using ra)⟩
  | .tuple ds, v, u, h, r => by
    simp only [Dat] at h
    obtain ⟨a, vs, rfl, q, g⟩ := h
    cases (show u = Value.ref a from r)
    obtain ⟨its, rv, p, hz⟩ := I.tuple (SqT.of q)
    obtain ⟨o, ho, hc, n, hd⟩ := p
    obtain ⟨as, ra⟩ := Inv.readsAll I ds g rv
    exact ⟨_, .tuple ho hc hd (by simpa using ra)⟩
  | .dict _, _, _, h, _ => by simp only [Dat] at h
theorem Inv.readsAll (I : Inv X pins σ H s) : ∀ (ds : List PyData) {vs : List V} {us : List Value}, Dats H vs ds → Vals vs us → ∃ as, ReadsAll s.heap us ds as
  | [], [], _, _, .nil => ⟨_, .nil⟩
  | d :: ds, v :: vs, _, h, .cons r rs => by
    simp only [Dats] at h
    obtain ⟨as, ra⟩ := Inv.reads I d h.1 r
    obtain ⟨bs, rb⟩ := Inv.readsAll I ds h.2 rs
    exact ⟨_, .cons ra rb⟩
  | _ :: _, [], _, h, _ => by simp only [Dats] at h
  | [], _ :: _, _, h, _ => by simp only [Dats] at h
end
/-- == and != of data -/
def rEqD (neg : Bool) : R2 := fun x y H Q => ∃ d e, Dat H x d ∧ Dat H y e ∧ SeqAt.shaped d = true ∧ SeqAt.shaped e = true ∧ Q (.bl (if neg then !PyData.eqv d e else PyData.eqv d e)) H
theorem op_eqD (hu : X.A.units + 64 < cLine) : OpR X (compareOp .Eq) (rEqD false) := by
  intro pins s σ H x y v u Q I rx ry h
  obtain ⟨d, e, h1, h2, s1, s2, q⟩ := h
  obtain ⟨as, ra⟩ := I.reads d h1 rx
  obtain ⟨bs, rb⟩ := I.reads e h2 ry
  exact SeqAt.compareEq_shaped ra rb s1 s2 hu ⟨.bl _, H, I, rfl, q⟩
/-! ### isinstance -/
/-- isinstance(x, c): c's value is known -/
theorem call_isi {c : Value} {cv : V} (rc : RelV cv c) : CallR X (.builtin "isinstance") (fun xs H Q => ∃ x t b, xs = [x, cv] ∧ TyOf X.K H x t ∧ PySem.W.kitOne X.K t c = some b ∧ Q (.bl b) H) := by
  intro pins s σ H xs us Q I r h
  obtain ⟨x, t, b, rfl, ty, e, q⟩ := h
  obtain ⟨u, w', rfl, r1, r2⟩ := vals2 r
  have : w' = c := by
    cases cv with
    | non => exact (show w' = Value.none from r2).trans (show c = Value.none from rc).symm
    | bl b => exact (show w' = Value.bool b from r2).trans (show c = Value.bool b from rc).symm
    | ref a => exact (show w' = Value.ref a from r2).trans (show c = Value.ref a from rc).symm
    | ty n => exact (show w' = Value.type n from r2).trans (show c = Value.type n from rc).symm
    | int i => obtain ⟨t1, rfl⟩ := (show ∃ t, c = Value.int i t from rc); unfold PySem.W.kitOne at e; exact absurd e (by cases ty <;> simp [PySem.W.kitCls])
    | str i => obtain ⟨t1, rfl⟩ := (show ∃ t, c = Value.str i t from rc); unfold PySem.W.kitOne at e; exact absurd e (by cases ty <;> simp [PySem.W.kitCls])
    | byt i => obtain ⟨t1, rfl⟩ := (show ∃ t, c = Value.bytes i t from rc); unfold PySem.W.kitOne at e; exact absurd e (by cases ty <;> simp [PySem.W.kitCls])
    | flt i => obtain ⟨t1, rfl⟩ := (show ∃ t, c = Value.float i t from rc); unfold PySem.W.kitOne at e; exact absurd e (by cases ty <;> simp [PySem.W.kitCls])
  subst this
  exact isinst_ok I r1 ty e fun tk => ⟨.bl b, H, I.tok _, rfl, q⟩
end

/-! ### all, any over a list of bools -/
section
variable {prog : Program} {w : World} {A : Around}
theorem walks_list (hh : A.handled = none) (it a : Addr) (hne : it ≠ a) (its : List Value) : Walks prog w A it [it, a] [it] its.length (fun i v => its[i]? = some v) (fun i h => h.IsListIter it a i ∧ h.IsList a its.toArray) where
  sub := by simp
  frame := fun i h h' ⟨s1, o, ho, hc⟩ k => ⟨s1.at fun o e => k it (by simp) o e, o, k a (by simp) o ho, hc⟩
  item := fun i s Q E hi ⟨s1, s2⟩ hQ => wpAny_pyNext_list_item s1 s2 (x := its[i]) (by simp [hi]) fun h' st' sb =>
    hQ _ h' s.toks (by simp [hi]) ⟨st', s2.extBut sb.extBut hne.symm⟩ fun b o hb e => (sb.2 b (by simpa using hb)).trans e
  done := fun s Q E ⟨s1, s2⟩ hQ => wpAny_pyNext_list_end hh s1 s2 (by simp) fun h' eb => hQ h' s.toks fun b o hb e => eb b o (by simpa using hb) e
  self := fun i s Q E ⟨s1, _⟩ hQ => wpAny_pyIter_listiter s1 hQ
end
section
variable {X : Cx}
theorem range_all_get (bs : List Bool) : (List.range bs.length).all (fun i => (bs[i]?).getD false) = bs.all id := by
  rw [Bool.eq_iff_iff, List.all_eq_true, List.all_eq_true]
  constructor
  · intro h b hb
    obtain ⟨i, hi, rfl⟩ := List.getElem_of_mem hb
    have := h i (by simpa using hi)
    simpa [hi] using this
  · intro h i hi
    have hi' : i < bs.length := by simpa using hi
    simpa [hi'] using h bs[i] (List.getElem_mem hi')
theorem vals_bools {bs : List Bool} : ∀ {us : List Value}, Vals (bs.map V.bl) us → us = bs.map Value.bool := by
  induction bs with
  | nil => intro us r; cases r; rfl
  | cons b bs ih =>
    intro us r
    cases r with
    | cons r rs => cases (show _ = Value.bool b from r); rw [ih rs]; rfl
theorem call_all_bools (hc : X.calm = true) : CallR X (.builtin "all") (fun xs H Q => ∃ (p : Addr) (bs : List Bool), xs = [.ref p] ∧ SqL X.K H p (bs.map V.bl) ∧ Q (.bl (bs.all id)) H) := by
  intro pins s σ H xs us Q I r h
  obtain ⟨p, bs, rfl, hq, q⟩ := h
  obtain ⟨u, rfl, rx⟩ := vals1 r
  cases rx
  obtain ⟨its, rv, pl, hz⟩ := I.list hq
  have e := vals_bools rv
  have hlen : its.length = bs.length := by rw [e, List.length_map]
  refine call_all_walk (wpAny_pyIter_list pl.isList ⟨s.heap.objs.size, [s.heap.objs.size, p], [s.heap.objs.size], its.length, _, _, fun i => (bs[i]?).getD false, rfl,
    walks_list (show X.A.in1.handled = none from I.ok.hd hc) s.heap.objs.size p ?_ its, ⟨⟨_, Heap.get?_push_size _ rfl, rfl, rfl⟩, ?_⟩, ?_, ?_⟩)
  · intro z
    obtain ⟨o, ho, _⟩ := pl.isList
    have := Heap.lt_size ho
    rw [← z] at this
    exact Nat.lt_irrefl _ this
  · obtain ⟨o, ho, hcl⟩ := pl.isList
    exact ⟨o, Heap.get?_push_of_some _ ho, hcl⟩
  · intro i v s1 Q1 E1 hP hQ
    rw [e, List.getElem?_map] at hP
    cases r : bs[i]? with
    | none => rw [r] at hP; cases hP
    | some b =>
      rw [r] at hP
      cases hP
      simp only [r, Option.getD_some] at hQ
      exact wpAny_truthy_bool hQ
  · intro h' tk k
    rw [hlen, range_all_get]
    have f := I.fpOk (H' := H) (b := s.heap.objs.size) (Nat.le_refl _) (I.hok.fresh (Nat.le_refl _))
    have I2 : Inv X pins σ H { s with heap := h', toks := tk } := I.turned (h' := h') (t' := tk) (it := s.heap.objs.size) (fun b o hb e => k b o (by simpa using hb) (Heap.get?_push_of_some _ e)) f.1 f.2.1 f.2.2.2.1 f.2.2.2.2.1 f.2.2.2.2.2
    exact ⟨.bl _, H, I2, rfl, q⟩
end
end L2
set_option Elab.async false
set_option linter.all false
set_option maxRecDepth 100000
set_option maxHeartbeats 4000000
namespace L2
open PySem PySem.Spec PyProof.Rows

/-! ### a def of the text, called by its name; no exception leaves it -/
def FnAt (P : Program) (w : World) (K : PySem.W.Frag) (mg : Str → Option Value) (base : Heap) (k : Nat) (x : Str) (ps : List Str) (sp : Sp) : Prop :=
  ∃ f fd, FnOk P w K mg base CX0 k f fd ps sp ∧ mg x = some (.ref f) ∧ PySem.W.keepIn K (.ref f) = true ∧ Binds K fd ps []
section
variable {X : Cx} {k j : Nat} {x : Str} {ps : List Str} {sp : Sp} {e : Expr} {es : List Expr} {t : TA} {p pos : Pos}
theorem pe_fn (F : FnAt X.prog X.w X.K X.mg X.base k x ps sp) (hr : Room k X.A) (hg : Gl X x) (ha : PA X (e :: es) t) (hd : (x == ("__debug__" : Str)) = false := by decide)
    (he : starEach (e :: es) X.env = (false, eval e X.env) :: starEach es X.env := by rfl) (hpl : (backTo pos (starEach es X.env)).any (·.1) = false := by rfl) :
    PE X (.Call (.Name x p) (e :: es) [] pos) (tCall sp [] E0 t) := by
  obtain ⟨f, fd, G, hm, hk, hb⟩ := F
  exact pe_call G hr hg hm hk hb .nil pass0 ha (hdb := hd) (he := he) (hpl := hpl)
end

/-! ### what the built-in names are -/
theorem bt_abs : bootBuiltins "abs" = some (.builtin "abs") := by kernel_rfl
theorem bt_all : bootBuiltins "all" = some (.builtin "all") := by kernel_rfl
theorem bt_len : bootBuiltins "len" = some (.builtin "len") := by kernel_rfl
theorem bt_min : bootBuiltins "min" = some (.builtin "min") := by kernel_rfl
theorem bt_max : bootBuiltins "max" = some (.builtin "max") := by kernel_rfl
theorem bt_sum : bootBuiltins "sum" = some (.builtin "sum") := by kernel_rfl
theorem bt_isinstance : bootBuiltins "isinstance" = some (.builtin "isinstance") := by kernel_rfl
theorem bt_int : bootBuiltins "int" = some (.type "int") := by kernel_rfl
theorem bt_bool : bootBuiltins "bool" = some (.type "bool") := by kernel_rfl
theorem bt_list : bootBuiltins "list" = some (.type "list") := by kernel_rfl
theorem bt_tuple : bootBuiltins "tuple" = some (.type "tuple") := by kernel_rfl
theorem bt_str : bootBuiltins "str" = some (.type "str") := by kernel_rfl
/-! ### a product whose size fits -/
section
variable {X : Cx}
end

/-! ### heaps: what stays -/
/-- all stays but what stands at r -/
def Kp (r : Addr) (H H' : Hp) : Prop := ∀ b o, H b = some o → b ≠ r → H' b = some o
theorem Kp.of_same {r : Addr} {H H' : Hp} (h : Same H H') : Kp r H H' := fun b o e _ => h b o e
theorem Kp.trans {r : Addr} {H H1 H2 : Hp} (a : Kp r H H1) (b : Kp r H1 H2) : Kp r H H2 := fun c o h n => b c o (a c o h n) n
theorem Kp.refl (r : Addr) (H : Hp) : Kp r H H := fun _ _ h _ => h
theorem Kp.set {r : Addr} {H : Hp} {o : HO} : Kp r H (upd H r o) := fun b u e n => by rw [upd_ne n]; exact e
theorem same_new {H : Hp} {p : Addr} {o : HO} (h : H p = none) : Same H (upd H p o) := fun b u e => by rw [upd_ne (ne_of_none e h)]; exact e
theorem Same.tups {H H' : Hp} (e : Same H H') : ∀ a xs, H a = some (HO.tup xs) → H' a = some (HO.tup xs) := fun a xs h => e _ _ h
theorem Same.sqL {K : PySem.W.Frag} {H H' : Hp} (e : Same H H') : ∀ a xs, SqL K H a xs → SqL K H' a xs := fun a xs h => e.seq h
/-- a list at r: tuples are elsewhere -/
theorem Kp.tups {H H' : Hp} {r : Addr} {ys : List V} (e : Kp r H H') (hr : H r = some (.lst ys)) : ∀ a xs, H a = some (HO.tup xs) → H' a = some (HO.tup xs) := fun a xs h => e _ _ h (ne_of h hr (by intro z; cases z))
end L2

/-! ### the rules over K itself (a block's context has the same K) -/
namespace L2
open PySem PySem.Spec PyProof.Rows
section
variable {X : Cx} {K : PySem.W.Frag}
theorem ix_listK (h : X.K = K) : IxR X (rIxL K) := by subst h; exact ix_list
theorem ix_tupK (h : X.K = K) : IxR X (rIxT K) := by subst h; exact ix_tup
theorem sl_listK (h : X.K = K) : SlR X (rSlL K) := by subst h; exact sl_list
theorem op_in_seqK (h : X.K = K) : OpR X (compareOp .In) (rIn K false) := by subst h; exact op_in_seq
def rLen (K : PySem.W.Frag) : List V → Hp → VK → Prop := fun xs H Q => ∃ (p : Addr) (ys : List V), xs = [.ref p] ∧ (SqL K H p ys ∨ SqT K H p ys) ∧ Q (.int ys.length) H
theorem call_len_seqK (h : X.K = K) : CallR X (.builtin "len") (rLen K) := by subst h; exact call_len_seq
def rListOf (K : PySem.W.Frag) : List V → Hp → VK → Prop := fun xs H Q => ∃ (p : Addr) (ys : List V), xs = [.ref p] ∧ (SqL K H p ys ∨ SqT K H p ys) ∧ ∀ l, H l = none → Q (.ref l) (upd H l (.lst ys))
theorem call_list_ofK (h : X.K = K) : CallR X (.type "list") (rListOf K) := by subst h; exact call_list_of
def rAllB (K : PySem.W.Frag) : List V → Hp → VK → Prop := fun xs H Q => ∃ (p : Addr) (bs : List Bool), xs = [.ref p] ∧ SqL K H p (bs.map V.bl) ∧ Q (.bl (bs.all id)) H
theorem call_all_boolsK (h : X.K = K) (hc : X.calm = true) : CallR X (.builtin "all") (rAllB K) := by subst h; exact call_all_bools hc
theorem op_eqDK (h : X.K = K) (hu : X.A.units + 64 < cLine) : OpR X (compareOp .Eq) (rEqD false) := by subst h; exact op_eqD hu
theorem pi_listK {tg l : Expr} {tl : TE} (h : X.K = K) (hl : PE X l tl) : PI X tg l (iList K tl) := by subst h; exact pi_list hl
theorem pi_tupK {tg l : Expr} {tl : TE} (h : X.K = K) (hl : PE X l tl) : PI X tg l (iTup K tl) := by subst h; exact pi_tup hl
def rIsi (K : PySem.W.Frag) (c : Value) (cv : V) : List V → Hp → VK → Prop := fun xs H Q => ∃ x t b, xs = [x, cv] ∧ TyOf K H x t ∧ PySem.W.kitOne K t c = some b ∧ Q (.bl b) H
theorem call_isiK {c : Value} {cv : V} (h : X.K = K) (rc : RelV cv c) : CallR X (.builtin "isinstance") (rIsi K c cv) := by subst h; exact call_isi rc
theorem pe_appendK {o e : Expr} {to : TE} {t : TA} {apos cpos : Pos} (h : X.K = K) (ho : PE X o to) (ha : PA X [e] t)
    (hbase : attributeBase o "append" X.env (eval o X.env) = eval o X.env := by rfl)
    (hfew : ((backTo cpos (starEach [e] X.env)).all (fun x => !x.1) && (backToKw cpos (keywordEach [] X.env)).all (fun x => x.1.isSome)
      && decide (([e] : List Expr).length + ([] : List Keyword).length + (if ([] : List Keyword).isEmpty then 0 else 1) < 30)) = true := by rfl)
    (hline : (apos.endLine == cpos.line) = true := by rfl) (hs : starEach [e] X.env = (false, eval e X.env) :: starEach [] X.env := by rfl) (hplain : (backTo cpos (starEach [] X.env)).any (·.1) = false := by rfl) :
    PE X (.Call (.Attribute o "append" apos) [e] [] cpos) (tBM K "list" rAppend to t) := by
  subst h
  exact pe_bm PySem.F.plainAttrs_list PySem.F.slot_list_append PySem.F.type_list_append mt_append ho ha hbase hfew hline hs hplain
end
end L2
namespace L2
open PySem
/-! ### comprehensions by their invariant -/
section
variable {K : PySem.W.Frag} {a D : Addr} {xs : List V} {g : TG} {tc : TT} {te : TE} {Q : VK} {σ0 : St} {H1 : Hp}
/-- over a list that the block leaves as it is -/
theorem comp_list (Pv : Nat → St → Hp → Prop) (h0 : Pv 0 σ0 (upd H1 D (.lst []))) (hl : ∀ i σ H, i ≤ xs.length → Pv i σ H → SqL K H a xs)
    (hs : ∀ i x σ H, xs[i]? = some x → Pv i σ H → g x σ H fun σ2 H2 => tc σ2 H2 fun b H3 =>
      if b = true then te σ2 H3 fun y H4 => ∃ acc, H4 D = some (.lst acc) ∧ acc.length < sizeLine ∧ Pv (i + 1) σ2 (upd H4 D (.lst (acc ++ [y]))) else Pv (i + 1) σ2 H3)
    (hd : ∀ σ H, Pv xs.length σ H → Q (.ref D) H) : CompW (Itl K a) g tc te Q D σ0 H1 := by
  refine ⟨fun i m σ H => m = xs.length - i ∧ i ≤ xs.length ∧ Pv i σ H, ⟨xs.length, by simp, Nat.zero_le _, h0⟩, ?_⟩
  rintro i m σ H ⟨rfl, hi, p⟩
  have q := hl i σ H hi p
  by_cases hlt : i < xs.length
  · refine .inr ⟨⟨xs, xs[i], q, by simp [hlt]⟩, Pv (i + 1), fun σ' H' p' => ⟨xs.length - (i + 1), by omega, rfl, hlt, p'⟩, fun x H' y => ?_⟩
    obtain ⟨e, y⟩ := y
    subst e
    exact hs i x σ _ (y xs q) p
  · have e : i = xs.length := by omega
    subst e
    exact .inl ⟨⟨xs, q, Nat.le_refl _⟩, hd σ H p⟩
theorem comp_tup (Pv : Nat → St → Hp → Prop) (h0 : Pv 0 σ0 (upd H1 D (.lst []))) (hl : ∀ i σ H, i ≤ xs.length → Pv i σ H → SqT K H a xs)
    (hs : ∀ i x σ H, xs[i]? = some x → Pv i σ H → g x σ H fun σ2 H2 => tc σ2 H2 fun b H3 =>
      if b = true then te σ2 H3 fun y H4 => ∃ acc, H4 D = some (.lst acc) ∧ acc.length < sizeLine ∧ Pv (i + 1) σ2 (upd H4 D (.lst (acc ++ [y]))) else Pv (i + 1) σ2 H3)
    (hd : ∀ σ H, Pv xs.length σ H → Q (.ref D) H) : CompW (Itt K a) g tc te Q D σ0 H1 := by
  refine ⟨fun i m σ H => m = xs.length - i ∧ i ≤ xs.length ∧ Pv i σ H, ⟨xs.length, by simp, Nat.zero_le _, h0⟩, ?_⟩
  rintro i m σ H ⟨rfl, hi, p⟩
  have q := hl i σ H hi p
  by_cases hlt : i < xs.length
  · refine .inr ⟨⟨xs, xs[i], q, by simp [hlt]⟩, Pv (i + 1), fun σ' H' p' => ⟨xs.length - (i + 1), by omega, rfl, hlt, p'⟩, fun x H' y => ?_⟩
    obtain ⟨e, y⟩ := y
    subst e
    exact hs i x σ _ (y xs q) p
  · have e : i = xs.length := by omega
    subst e
    exact .inl ⟨⟨xs, q, Nat.le_refl _⟩, hd σ H p⟩
theorem comp_range {lo : Int} {n : Nat} (Pv : Nat → St → Hp → Prop) (h0 : Pv 0 σ0 (upd H1 D (.lst [])))
    (hs : ∀ i σ H, i < n → Pv i σ H → g (.int (lo + i)) σ H fun σ2 H2 => tc σ2 H2 fun b H3 =>
      if b = true then te σ2 H3 fun y H4 => ∃ acc, H4 D = some (.lst acc) ∧ acc.length < sizeLine ∧ Pv (i + 1) σ2 (upd H4 D (.lst (acc ++ [y]))) else Pv (i + 1) σ2 H3)
    (hd : ∀ σ H, Pv n σ H → Q (.ref D) H) : CompW (Itr lo n) g tc te Q D σ0 H1 := by
  refine ⟨fun i m σ H => m = n - i ∧ i ≤ n ∧ Pv i σ H, ⟨n, by simp, Nat.zero_le _, h0⟩, ?_⟩
  rintro i m σ H ⟨rfl, hi, p⟩
  by_cases hlt : i < n
  · refine .inr ⟨hlt, Pv (i + 1), fun σ' H' p' => ⟨n - (i + 1), by omega, rfl, hlt, p'⟩, fun x H' y => ?_⟩
    obtain ⟨e, y⟩ := y
    subst e y
    exact hs i σ _ hlt p
  · have e : i = n := by omega
    subst e
    exact .inl ⟨Nat.le_refl _, hd σ H p⟩
end
end L2
set_option Elab.async false
set_option linter.all false
set_option maxRecDepth 100000
set_option maxHeartbeats 4000000
namespace L2
open PySem PySem.Spec PyProof.Rows
/-! ### lists of data: shape and equality -/
section
variable {α : Type} (f : α → PyData)
theorem canAll_map : ∀ (l : List α), (∀ x ∈ l, (f x).canLay0 = true) → PyData.canLayAll0 (l.map f) = true
  | [], _ => rfl
  | a :: l, h => by
    show (PyData.canLay0 (f a) && PyData.canLayAll0 (l.map f)) = true
    rw [h a List.mem_cons_self, canAll_map l fun x hx => h x (List.mem_cons_of_mem _ hx)]; rfl
theorem depthAll_map (k : Nat) : ∀ (l : List α), (∀ x ∈ l, (f x).depth ≤ k) → PyData.depthAll (l.map f) ≤ k
  | [], _ => Nat.zero_le _
  | a :: l, h => by
    show max (PyData.depth (f a)) (PyData.depthAll (l.map f)) ≤ k
    exact Nat.max_le.mpr ⟨h a List.mem_cons_self, depthAll_map k l fun x hx => h x (List.mem_cons_of_mem _ hx)⟩
theorem shaped_list {l : List α} (k : Nat) (hk : k < 64) (h1 : ∀ x ∈ l, (f x).canLay0 = true) (h2 : ∀ x ∈ l, (f x).depth ≤ k) : SeqAt.shaped (.list (l.map f)) = true := by
  unfold SeqAt.shaped
  have e1 : PyData.canLay0 (.list (l.map f)) = true := canAll_map f l h1
  have e2 : PyData.depth (.list (l.map f)) ≤ 64 := by
    show PyData.depthAll (l.map f) + 1 ≤ 64
    have := depthAll_map f k l h2
    omega
  rw [e1, decide_eq_true e2]; rfl
theorem eqvAll_map [DecidableEq α] (h : ∀ x y, PyData.eqv (f x) (f y) = decide (x = y)) : ∀ (l m : List α), PyData.eqvAll (l.map f) (m.map f) = decide (l = m)
  | [], [] => rfl
  | [], _ :: _ => by simp only [List.map_nil, List.map_cons, PyData.eqvAll]; exact (decide_eq_false (by intro z; cases z)).symm
  | _ :: _, [] => by simp only [List.map_nil, List.map_cons, PyData.eqvAll]; exact (decide_eq_false (by intro z; cases z)).symm
  | a :: l, b :: m => by
    simp only [List.map_cons, PyData.eqvAll]
    rw [h a b, eqvAll_map h l m]
    by_cases e1 : a = b
    · subst e1
      by_cases e2 : l = m
      · subst e2; simp
      · simp [e2]
    · simp [e1]
theorem eqv_list [DecidableEq α] (h : ∀ x y, PyData.eqv (f x) (f y) = decide (x = y)) (l m : List α) : PyData.eqv (.list (l.map f)) (.list (m.map f)) = decide (l = m) := by
  simp only [PyData.eqv]; exact eqvAll_map f h l m
end
theorem dat_list {H : Hp} {a : Addr} {vs : List V} {ds : List PyData} (h : H a = some (.lst vs)) (d : Dats H vs ds) : Dat H (.ref a) (.list ds) := by
  simp only [Dat]
  exact ⟨a, vs, rfl, h, d⟩
theorem isi_int_int (K : PySem.W.Frag) : PySem.W.kitOne K (.type "int") (.type "int") = some true := rfl
theorem isi_int_bool (K : PySem.W.Frag) : PySem.W.kitOne K (.type "int") (.type "bool") = some false := by kernel_rfl
theorem isi_tuple_tuple (K : PySem.W.Frag) : PySem.W.kitOne K (.type "tuple") (.type "tuple") = some true := rfl
end L2
namespace L2
open PySem
theorem cut_take (xs : List V) (k : Nat) : cutV xs none (some (k : Int)) = xs.take k := by
  unfold cutV
  rw [HT.sIx_none, HT.sIx_nat, List.drop_zero, Nat.sub_zero]
  by_cases h : k ≤ xs.length
  · rw [Nat.min_eq_left h]
  · rw [Nat.min_eq_right (by omega), List.take_of_length_le (Nat.le_refl _), List.take_of_length_le (by omega)]
theorem cut_drop (xs : List V) (k : Nat) : cutV xs (some (k : Int)) none = xs.drop k := by
  unfold cutV
  rw [HT.sIx_none, HT.sIx_nat]
  by_cases h : k ≤ xs.length
  · rw [Nat.min_eq_left h, List.take_of_length_le (by rw [List.length_drop]; exact Nat.le_refl _)]
  · rw [Nat.min_eq_right (by omega), Nat.sub_self, List.take_zero, List.drop_of_length_le (by omega)]
end L2
set_option Elab.async false
set_option linter.all false
set_option maxRecDepth 100000
set_option maxHeartbeats 4000000
namespace PySem.W
open PySem PySem.Spec PySem.Calls PyProof.Rows
theorem ga_kind : builtinKind "BaseException.__getattribute__" = some .slot := by decide +kernel
theorem ga_split : splitId "BaseException.__getattribute__" = some ("BaseException", "__getattribute__") := by decide +kernel
section
variable {prog : Program} {w : World} {A : Around} {E : Value → Shared → Prop} {s : Shared} {K : Frag} {x D : Addr} {ox : Obj} {odo : Option Obj} {name : Str}
theorem exc_check {M : Model} {nameV : Value} {Q : Unit → Shared → Prop} (X : K.In s.heap) (I : InstAt s.heap x ox D odo) (hB : mroIn K D (.type "BaseException") = some true) (hq : Q () s) :
    wpAny M A (checkBuiltinCall "BaseException.__getattribute__" ⟨[.ref x, nameV], []⟩) Q E s := by
  obtain ⟨hh, g, d, t, os⟩ := s
  have L0 := I.type (M := M)
  have L3 := looks_mroIn (M := M) X hB
  have ha := F.args_bexc_ga (.ref x) nameV
  simp only [checkBuiltinCall, ga_kind, ga_split]
  unfold isInstance
  repeat (first | lk | wp_step)
  all_goals first | exact hq | trace_state
theorem exc_open {Q : Option Value → Shared → Prop} {gv a : Value} (X : K.In s.heap) (I : InstAt s.heap x ox D odo) (hga : findIn K (.ref D) "__getattribute__" = some (some (.builtin "BaseException.__getattribute__")))
    (hk : findIn K (.ref D) "__getattr__" = some none) (hB : mroIn K D (.type "BaseException") = some true) (hf : findObj K D odo name = some (.bind gv a))
    (FB : Slot "Exception" "__getattribute__" "BaseException.__getattribute__")
    (h : ∀ A', codeAny (model prog w) A' (.call gv ⟨[a, .ref x, .ref D], []⟩) (fun r s' => match r with | .ok (.ret v) => wpAny (model prog w) A (handedOut v) (fun v s'' => Q (some v) s'') (fun _ _ => False) s' | _ => False) { s with toks := s.toks + 1 }) :
    wpAny (model prog w) A (getAttr? (.ref x) name) Q E s := by
  obtain ⟨hh, g, d, t, os⟩ := s
  have L0 := I.type (M := model prog w)
  have L1 := looks_findIn (M := model prog w) X hga
  have L2 := looks_findIn (M := model prog w) X hk
  have L4 := looks_find (M := model prog w) X I hf
  have hx2 : (Value.builtin "BaseException.__getattribute__" == Value.builtin "object.__getattribute__") = false := by decide +kernel
  have f3 := FB.bind (.ref x)
  unfold getAttr? getAttrBy? getAttrBy
  refine wpAny_bind (wpAny_mkText (wpAny_bind (wpAny_attempt (wpAny_holding (wpAny_bind (L0.at (wpAny_bind (L1.at ?_))))))))
  simp only [hx2, Bool.and_false, Bool.false_eq_true, if_false]
  unfold getAttrByItsOwn hookBefore
  show wpAny _ _ (typeLookup (.ref D) "__getattr__" >>= _) _ _ _
  refine wpAny_bind (L2.at ?_)
  refine wpAny_bind (wpAny_attempt (wpAny_holding ?_))
  unfold callGetattribute boundAndCalled
  rw [if_neg (by decide)]
  refine wpAny_bind (wpAny_of_eq f3 ?_)
  refine wpAny_call (codeAny_call_builtin FB.plain F.entry_bexc_ga (exc_check (s := ⟨hh, g, d, t + 1, os⟩) X I hB ?_))
  show wpAny _ _ (Builtin.«object.__getattribute__» ⟨[.ref x, .str name t], []⟩) _ _ _
  unfold Builtin.«object.__getattribute__»
  refine wpAny_bind (wpAny_pure ?_)
  refine wpAny_bind (wpAny_pure ?_)
  refine wpAny_bind (L0.at (wpAny_bind (L4.at ?_)))
  show wpAny _ _ (Builtin.ObjectAttr.bindTo gv a (.ref x) (.ref D)) _ _ _
  unfold Builtin.ObjectAttr.bindTo
  show wpAny _ _ (holding [a] (call gv [a, .ref x, .ref D]) >>= fun v => ret v) _ _ _
  refine wpAny_bind (wpAny_holding (wpAny_call (codeAny_mono (h _) fun r s' hr => ?_)))
  match r, hr with
  | .ok (.ret v), hr =>
    refine wpAny_pure ?_
    exact wpAny_mono hr (fun v s'' q => wpAny_pure q) fun _ _ z => z.elim
end
theorem exc_slot : Slot "Exception" "__getattribute__" "BaseException.__getattribute__" := F.attr_Exception.ga
theorem findObj_dataO {K : Frag} {C : Addr} {od : Option Obj} {name : Str} {a g : Value} (hc : (clsIn K C).isSome = true) (ha : findIn K (.ref C) name = some (some a)) (hg : specialIn K a "__get__" = some (some g)) (ht : takesIn K a = some true) : findObj K C od name = some (.bind g a) := by
  obtain ⟨cd, hc⟩ := Option.isSome_iff_exists.mp hc
  unfold findObj
  rw [hc, Option.bind_some, ha, Option.bind_some]
  simp [hg, ht]
/-- e.__class__ of an exception of an own class without a dict -/
theorem exc_class {prog : Program} {w : World} {A : Around} {E : Value → Shared → Prop} {s : Shared} {K : Frag} {x D : Addr} {ox : Obj} {odo : Option Obj} {Q : Option Value → Shared → Prop} (X : K.In s.heap) (I : InstAt s.heap x ox D odo)
    (hga : findIn K (.ref D) "__getattribute__" = some (some (.builtin "BaseException.__getattribute__"))) (hk : findIn K (.ref D) "__getattr__" = some none) (hB : mroIn K D (.type "BaseException") = some true)
    (hc : (clsIn K D).isSome = true) (ha : findIn K (.ref D) "__class__" = some (some (.builtin "object.__class__")))
    (hn : specialIn K (.builtin "object.__class__") "__get__" = some (some (.builtin "getset_descriptor.__get__"))) (htk : takesIn K (.builtin "object.__class__") = some true) (hm : mroIn K D (.type "object") = some true)
    (h : Q (some (.ref D)) { s with toks := s.toks + 1 }) : wpAny (model prog w) A (getAttr? (.ref x) "__class__") Q E s := by
  have hf : findObj K D odo "__class__" = some (.bind (.builtin "getset_descriptor.__get__") (.builtin "object.__class__")) := findObj_dataO hc ha hn htk
  exact exc_open X I hga hk hB hf exc_slot fun A' => class_get (s := { s with toks := s.toks + 1 }) X I hm (handed_on rfl h)
/-- what the text's class of exceptions must have -/
structure XCls (K : Frag) (D : Addr) : Prop where
  hga : findIn K (.ref D) "__getattribute__" = some (some (.builtin "BaseException.__getattribute__"))
  hk : findIn K (.ref D) "__getattr__" = some none
  hB : mroIn K D (.type "BaseException") = some true
  hc : (clsIn K D).isSome = true
  ha : findIn K (.ref D) "__class__" = some (some (.builtin "object.__class__"))
  hn : specialIn K (.builtin "object.__class__") "__get__" = some (some (.builtin "getset_descriptor.__get__"))
  htk : takesIn K (.builtin "object.__class__") = some true
  hm : mroIn K D (.type "object") = some true
theorem kitx_exc {K : Frag} {x D : Addr} (c : XCls K D) : KitX K (.ref x) (.ref D) (fun h => ∃ ox odo, InstAt h x ox D odo) where
  ty := fun _ _ _ ⟨_, _, I⟩ => I.type
  it := fun _ _ X _ => by
    have hc := c.hc
    unfold clsIn at hc
    split at hc
    · rename_i c' d' cd' sl' ho
      intro A' Q' E' s' k q
      unfold isType loadHead
      exact wpAny_bind (wpAny_loadPart (k _ _ (X _ _ ho)) (wpAny_pure q))
    · cases hc
  ne := fun h tp dd its n sl X htp => by
    have hc := c.hc
    refine Bool.eq_false_iff.mpr fun q => ?_
    have e : D = tp := Value.ref.inj (beq_iff_eq.mp q)
    subst e
    unfold clsIn at hc
    split at hc
    · rename_i c' d' cd' sl' ho
      have z := (X _ _ ho).symm.trans htp
      cases z
    · cases hc
  ca := fun X ⟨_, _, I⟩ k => exc_class X I c.hga c.hk c.hB c.hc c.ha c.hn c.htk c.hm k
end PySem.W
set_option Elab.async false
set_option linter.all false
set_option maxRecDepth 100000
set_option maxHeartbeats 4000000
namespace L2
open PySem PySem.Spec PyProof.Rows

/-! ### an exception and its record -/
/-- the exception at e: of the class cls, its dict at dx; fl: none, no record yet; some f: its record's flight is f, the record lies where lo says -/
def XObj (h : Heap) (e : Addr) (cls : Value) (dx : Option Addr) (lo : Addr → Prop) : Option Value → Prop
  | none => ∃ oe vs, h.get? e = some oe ∧ oe.cls = cls ∧ oe.dict = dx ∧ oe.data = .fields vs ∧ vs[1]? = some .none
  | some f => ∃ oe vs T oT ts, h.get? e = some oe ∧ oe.cls = cls ∧ oe.dict = dx ∧ oe.data = .fields vs ∧ vs[1]? = some (.ref T) ∧ lo T ∧ T ≠ e ∧ h.get? T = some oT ∧ oT.data = .fields ts ∧ ts[3]? = some f
theorem XObj.there {h : Heap} {e : Addr} {cls : Value} {dx : Option Addr} {lo : Addr → Prop} {f : Option Value} (x : XObj h e cls dx lo f) : ∃ oe vs, h.get? e = some oe ∧ oe.cls = cls ∧ oe.dict = dx ∧ oe.data = .fields vs := by
  cases f with
  | none => obtain ⟨oe, vs, a, b, c, d, _⟩ := x; exact ⟨oe, vs, a, b, c, d⟩
  | some f => obtain ⟨oe, vs, _, _, _, a, b, c, d, _⟩ := x; exact ⟨oe, vs, a, b, c, d⟩

section
variable {M : Model} {A : Around} {E : Value → Shared → Prop} {s : Shared} {base : Heap} {env : Env} {outer : List Env} {L e : Addr}
/-- what a note leaves: all but the frames' slots, the exception and old records -/
structure Noted (fr : List Addr) (e : Addr) (lo : Addr → Prop) (h h' : Heap) : Prop where
  keep : ∀ b o, h.get? b = some o → b ∉ fr → b ≠ e → ¬ lo b → h'.get? b = some o
  slot : ∀ b o, h.get? b = some o → b ∈ fr → b ≠ e → ¬ lo b → ∃ sl, h'.get? b = some { o with slots := sl }
  there : ∀ b o, h.get? b = some o → ∃ o', h'.get? b = some o'
theorem Noted.trans {fr : List Addr} {lo : Addr → Prop} {h h1 h2 : Heap} (a : Noted fr e lo h h1) (b : Noted fr e lo h1 h2) : Noted fr e lo h h2 where
  keep := fun c o q n1 n2 n3 => b.keep c o (a.keep c o q n1 n2 n3) n1 n2 n3
  slot := fun c o q n1 n2 n3 => by
    obtain ⟨sl, q1⟩ := a.slot c o q n1 n2 n3
    obtain ⟨sl2, q2⟩ := b.slot c _ q1 n1 n2 n3
    exact ⟨sl2, q2⟩
  there := fun c o q => by
    obtain ⟨o1, q1⟩ := a.there c o q
    exact b.there c o1 q1
theorem upd_fields {h : Heap} {a : Addr} {o : Obj} {vs : Array Value} (q : h.get? a = some o) (d : o.data = .fields vs) (i : Nat) (v : Value) :
    (h.update a (Obj.mapFields (·.setIfInBounds i v))).get? a = some (Obj.mapFields (·.setIfInBounds i v) o) ∧ (Obj.mapFields (·.setIfInBounds i v) o).data = .fields (vs.setIfInBounds i v) ∧
      (Obj.mapFields (·.setIfInBounds i v) o).cls = o.cls ∧ (Obj.mapFields (·.setIfInBounds i v) o).dict = o.dict := by
  have d2 := Obj.data_mapFields d (·.setIfInBounds i v)
  refine ⟨Heap.get?_update_self _ q (Obj.isFreed_of_fields d2), d2, Obj.cls_mapFields _ _, ?_⟩
  obtain ⟨c, dd, dt, sl⟩ := o
  simp only at d
  subst d
  rfl
/-- a record is laid and named by the exception -/
theorem xentry {oe : Obj} {vs : Array Value} {head : Value} {hadNext : Bool} {cls : Value} {dx : Option Addr} {lo : Addr → Prop} {Q : Unit → Shared → Prop} (hfr : A.frames = some (env :: outer)) (hl : s.heap.FunFrames base (env :: outer)) (hf : env.frame = some L)
    (he : s.heap.get? e = some oe) (hd : oe.data = .fields vs) (hsz : 1 < vs.size) (hc : oe.cls = cls) (hdx : oe.dict = dx) (hlo : ∀ T, s.heap.get? T = none → lo T)
    (h : ∀ h', Noted (frs (env :: outer)) e lo s.heap h' → XObj h' e cls dx lo (some (rawInt L)) → Q () { s with heap := h' }) :
    wpAny M A (do let a ← frameOf env; let pl ← entryPlaceOf L hadNext; let b ← EntryCells.newEntry head a .none (rawInt L) .none pl; setField (.ref e) 1 b) Q E s := by
  have nfr : e ∉ frs (env :: outer) := fun hm => by
    obtain ⟨_, o, q, nf⟩ := hl.mem hm
    rw [he] at q
    cases q
    exact nf vs hd
  refine wpAny_bind (wpAny_frameOf_fun hfr hl hf fun h1 hs1 => ?_)
  refine wpAny_bind (wpAny_entryPlaceOf fun pl hpl => ?_)
  unfold EntryCells.newEntry newFields
  refine wpAny_bind (wpAny_newObj_type ?_ (hpl.sizeOk5 _ _ _ _ _))
  generalize hob : ({ cls := .type "traceback", dict := none, data := .fields ([head, .ref L, .none, rawInt L, .none] ++ (if pl.isEmpty then List.replicate 6 Value.none else pl)).toArray } : Obj) = ob
  have q1 : h1.get? e = some oe := (hs1.2.1 e nfr).trans he
  have q2 := Heap.get?_push_of_some (h := h1) ob q1
  have nTe : h1.objs.size ≠ e := Nat.ne_of_gt (Heap.lt_size q1)
  have sizes : h1.objs.size = s.heap.objs.size := hs1.1
  have newT : s.heap.get? h1.objs.size = none := Heap.get?_none_of_le (by rw [sizes]; exact Nat.le_refl _)
  refine wpAny_setField q2 hd hsz (h _ ⟨fun b o q n1 n2 n3 => ?_, fun b o q n1 n2 n3 => ?_, fun b o q => ?_⟩ ?_)
  · rw [Heap.get?_update_other _ _ (Ne.symm n2)]
    exact Heap.get?_push_of_some _ ((hs1.2.1 b n1).trans q)
  · obtain ⟨sl, q3⟩ := hs1.2.2 b o q
    refine ⟨sl, ?_⟩
    rw [Heap.get?_update_other _ _ (Ne.symm n2)]
    exact Heap.get?_push_of_some _ q3
  · obtain ⟨sl, q3⟩ := hs1.2.2 b o q
    by_cases hb : b = e
    · subst hb
      exact ⟨_, (upd_fields q2 hd 1 _).1⟩
    · refine ⟨{ o with slots := sl }, ?_⟩
      rw [Heap.get?_update_other _ _ (Ne.symm hb)]
      exact Heap.get?_push_of_some _ q3
  · obtain ⟨u1, u2, u3, u4⟩ := upd_fields q2 hd 1 (Value.ref h1.objs.size)
    refine ⟨_, _, h1.objs.size, ob, _, u1, u3.trans hc, u4.trans hdx, u2, by simp [hsz], hlo _ newT, nTe, ?_, by rw [← hob], ?_⟩
    · rw [Heap.get?_update_other _ _ (Ne.symm nTe)]
      exact Heap.get?_push_size _ (by rw [← hob]; rfl)
    · first | (simp; done) | (rcases hpl with rfl | ⟨_, _, _, _, _, _, _, rfl⟩ <;> simp)
/-- an exception without record, or with one that is not in flight, is noted at a frame -/
theorem xnote {cls : Value} {dx : Option Addr} {lo : Addr → Prop} {Q : Unit → Shared → Prop} {fl : Option Value} (hfl : fl = none ∨ fl = some .none) (hfr : A.frames = some (env :: outer)) (hl : s.heap.FunFrames base (env :: outer)) (hf : env.frame = some L)
    (x : XObj s.heap e cls dx lo fl) (hlo : ∀ T, s.heap.get? T = none → lo T)
    (h : ∀ h', Noted (frs (env :: outer)) e lo s.heap h' → XObj h' e cls dx lo (some (rawInt L)) → Q () { s with heap := h' }) : wpAny M A (noteFrame (.ref e) env) Q E s := by
  unfold noteFrame
  simp only [hf]
  rcases hfl with rfl | rfl
  · obtain ⟨oe, vs, he, hc, hdx, hd, h1⟩ := x
    refine wpAny_bind (wpAny_field he hd h1 ?_)
    rw [if_neg (by decide)]
    exact xentry hfr hl hf he hd (Array.getElem?_eq_some_iff.mp h1).1 hc hdx hlo h
  · obtain ⟨oe, vs, T, oT, ts, he, hc, hdx, hd, h1, hT, nT, hgT, hdT, h3⟩ := x
    refine wpAny_bind (wpAny_field he hd h1 ?_)
    rw [if_pos (show (Value.ref T != Value.none) = true from by simp)]
    refine wpAny_bind (wpAny_field hgT hdT h3 ?_)
    rw [if_neg (show ¬ ((Value.none == rawInt L) = true) from by simp [rawInt])]
    have hs3 : 3 < ts.size := (Array.getElem?_eq_some_iff.mp h3).1
    refine wpAny_bind (wpAny_setField hgT hdT hs3 ?_)
    have oth : ∀ b, b ≠ T → (s.heap.update T (Obj.mapFields (·.setIfInBounds 3 Value.none))).get? b = s.heap.get? b := fun b hb => Heap.get?_update_other _ _ (Ne.symm hb)
    obtain ⟨u1, u2, u3, u4⟩ := upd_fields hgT hdT 3 Value.none
    have n0 : Noted (frs (env :: outer)) e lo s.heap (s.heap.update T (Obj.mapFields (·.setIfInBounds 3 Value.none))) := by
      have nb : ∀ b, ¬ lo b → b ≠ T := fun b hb z => hb (by rw [z]; exact hT)
      refine ⟨fun b o q _ _ n3 => (oth b (nb b n3)).trans q, fun b o q _ _ n3 => ⟨o.slots, (oth b (nb b n3)).trans q⟩, fun b o q => ?_⟩
      by_cases hb : b = T
      · subst hb; exact ⟨_, u1⟩
      · exact ⟨o, (oth b hb).trans q⟩
    have ffs : (s.heap.update T (Obj.mapFields (·.setIfInBounds 3 Value.none))).FunFrames base (env :: outer) := hl.of_keeps fun b o q nf => by
      by_cases hb : b = T
      · subst hb; rw [hgT] at q; cases q; exact absurd hdT (nf ts)
      · exact ⟨o, (oth b hb).trans q, rfl⟩
    refine xentry (s := { s with heap := s.heap.update T (Obj.mapFields (·.setIfInBounds 3 Value.none)) }) hfr ffs hf ((oth e (Ne.symm nT)).trans he) hd (Array.getElem?_eq_some_iff.mp h1).1 hc hdx (fun T' z => ?_) fun h' n1 x1 => h h' (n0.trans n1) x1
    by_cases hb : T' = T
    · rw [hb]; exact hT
    · exact hlo T' ((oth T' hb).symm.trans z)
/-- its flight is ended -/
theorem xland {cls : Value} {dx : Option Addr} {lo : Addr → Prop} {Q : Unit → Shared → Prop} {fr : List Addr} {f : Value} (x : XObj s.heap e cls dx lo (some f)) 
    (h : ∀ h', Noted fr e lo s.heap h' → XObj h' e cls dx lo (some .none) → Q () { s with heap := h' }) : wpAny M A (setFlight (.ref e) none) Q E s := by
  obtain ⟨oe, vs, T, oT, ts, he, hc, hdx, hd, h1, hT, nT, hgT, hdT, h3⟩ := x
  have hs3 : 3 < ts.size := (Array.getElem?_eq_some_iff.mp h3).1
  unfold setFlight
  refine wpAny_bind (wpAny_field he hd h1 ?_)
  rw [if_pos (show (Value.ref T != Value.none) = true from by simp)]
  have oth : ∀ b, b ≠ T → (s.heap.update T (Obj.mapFields (·.setIfInBounds 3 Value.none))).get? b = s.heap.get? b := fun b hb => Heap.get?_update_other _ _ (Ne.symm hb)
  obtain ⟨u1, u2, u3, u4⟩ := upd_fields hgT hdT 3 Value.none
  have nb : ∀ b, ¬ lo b → b ≠ T := fun b hb z => hb (by rw [z]; exact hT)
  refine wpAny_setField hgT hdT hs3 (h _ ⟨fun b o q _ _ n3 => (oth b (nb b n3)).trans q, fun b o q _ _ n3 => ⟨o.slots, (oth b (nb b n3)).trans q⟩, fun b o q => ?_⟩ ?_)
  · by_cases hb : b = T
    · subst hb; exact ⟨_, u1⟩
    · exact ⟨o, (oth b hb).trans q⟩
  · exact ⟨oe, vs, T, _, _, (oth e (Ne.symm nT)).trans he, hc, hdx, hd, h1, hT, nT, u1, u2, by simp [hs3]⟩
end

section
variable {X : Cx} {pins : List (Addr × Obj)} {σ : St} {H : Hp} {s : Shared} {e : Addr}
theorem ObjOk.there {P : Program} {w : World} {H : Hp} {h : Heap} {a : Addr} {o : HO} (x : ObjOk P w H h a o) : ∃ ob, h.get? a = some ob := by
  induction o with
  | lst xs => obtain ⟨_, _, _, _, q⟩ := x; exact ⟨_, q⟩
  | tup xs => obtain ⟨_, _, _, ob, q, _⟩ := x; exact ⟨ob, q⟩
  | dK kvs => obtain ⟨_, _, _, _, ob, _, _, q, _⟩ := x; exact ⟨ob, q⟩
  | dT kvs => obtain ⟨_, _, _, _, ob, _, _, q, _⟩ := x; exact ⟨ob, q⟩
  | set S n => obtain ⟨ob, _, _, _, q, _⟩ := x; exact ⟨ob, q⟩
  | ins C dx fs => obtain ⟨_, _, _, q, _⟩ := x; exact ⟨_, q⟩
  | own y => exact x
  | xd fs => obtain ⟨_, ⟨ob, _, _, q, _⟩, _⟩ := x; exact ⟨ob, q⟩
  | rng lo hi => obtain ⟨_, _, _, q⟩ := x; exact ⟨_, q⟩
  | frz ob u ih => exact ⟨ob, x.1⟩
  | tbl ps => exact ⟨_, x⟩
  | met f y => exact ⟨_, x⟩
  | ext φ => exact x.2.1
/-- an address of the exception's own: not tracked, not of the frame's, unknown at the entry -/
def XFp (X : Cx) (pins : List (Addr × Obj)) (H : Hp) (b : Addr) : Prop :=
  H b = none ∧ b ≠ X.env.locals ∧ b ∉ X.fs ∧ X.s₀.heap.get? b = none ∧ (∀ x c, X.env.cells.lookup x = some c → c ≠ b) ∧ ∀ p ∈ X.pn ++ pins, p.1 ≠ b
theorem Inv.xfp (I : Inv X pins σ H s) (hx : X.ex = []) {b : Addr} (hb : s.heap.get? b = none) : XFp X pins H b := by
  refine ⟨?_, fun z => ?_, fun z => ?_, ?_, fun x c q z => ?_, fun p hp z => ?_⟩
  · cases q : H b with
    | none => rfl
    | some o =>
      obtain ⟨ob, r⟩ := (I.hok b o q).there
      rw [hb] at r; cases r
  · obtain ⟨m, ⟨o, _, _, r, _⟩, _⟩ := I.loc
    rw [← z, hb] at r; cases r
  · obtain ⟨_, o, r, _⟩ := I.funs.mem z
    rw [hb] at r; cases r
  · cases q : X.s₀.heap.get? b with
    | none => rfl
    | some o =>
      obtain ⟨o', r⟩ := I.base.there b o q (by rw [hx]; simp)
      rw [hb] at r; cases r
  · obtain ⟨v, o, r, _⟩ := I.cell x c q
    rw [z, hb] at r; cases r
  · obtain ⟨r, _⟩ := I.pin p hp
    rw [z, hb] at r; cases r
/-- a note leaves the frame's state -/
theorem Inv.noted {lo : Addr → Prop} {h' : Heap} (I : Inv X pins σ H s) (n : Noted (frs X.stack) e lo s.heap h') (hlo : ∀ b, (b = e ∨ lo b) → XFp X pins H b ∨ s.heap.get? b = none) : Inv X pins σ H { s with heap := h' } := by
  have off : ∀ b o, s.heap.get? b = some o → (¬ XFp X pins H b) → b ≠ e ∧ ¬ lo b := fun b o q nx =>
    ⟨fun z => (hlo b (.inl z)).elim nx fun r => (by rw [r] at q; cases q), fun z => (hlo b (.inr z)).elim nx fun r => (by rw [r] at q; cases q)⟩
  have any : ∀ b o, s.heap.get? b = some o → (¬ XFp X pins H b) → ∃ sl, h'.get? b = some { o with slots := sl } := fun b o q nx => by
    obtain ⟨n1, n2⟩ := off b o q nx
    by_cases hb : b ∈ frs X.stack
    · exact n.slot b o q hb n1 n2
    · exact ⟨o.slots, n.keep b o q hb n1 n2⟩
  have s0 : ∀ b o, X.s₀.heap.get? b = some o → ¬ XFp X pins H b := fun b o q x => by rw [x.2.2.2.1] at q; cases q
  have neL : ∀ b o, X.s₀.heap.get? b = some o → b ≠ X.env.locals := fun b o q => Nat.ne_of_lt (Nat.lt_of_lt_of_le (Heap.lt_size q) I.ok.above)
  have nst : ∀ b, b ≠ X.env.locals → b ∉ X.fs → b ∉ frs X.stack := fun b n1 n2 z => (List.mem_cons.mp (I.stkSub b z)).elim n1 n2
  have trk : ∀ b o, H b = some o → ¬ XFp X pins H b := fun b o q x => by rw [x.1] at q; cases q
  have trkf : ∀ b o, H b = some o → b ∉ frs X.stack := fun b o q z => by rw [I.stkFree b z] at q; cases q
  have cl : ∀ x c, X.env.cells.lookup x = some c → ∀ v, s.heap.IsCell c v → h'.IsCell c v := fun x c q v ⟨o, ho, hd⟩ => by
    obtain ⟨sl, r⟩ := any c o ho fun z => z.2.2.2.2.1 x c q rfl
    exact ⟨_, r, hd⟩
  refine ⟨I.ok, I.os, I.bare, ⟨fun b o q nn hb hx => ?_, fun b o q nn hb hx => ?_, I.base.free, fun b o q hx => ?_, I.base.tups, I.base.frzs, I.base.tbls⟩, ?_, fun x c q => ?_, I.free, I.freeC, fun p hp => ?_, fun a o q => ?_, I.len⟩
  · have q1 := I.base.keep b o q nn hb hx
    obtain ⟨n1, n2⟩ := off b o q1 (s0 b o q)
    exact n.keep b o q1 (nst b (neL b o q) hb) n1 n2
  · obtain ⟨sl, q1⟩ := I.base.slot b o q nn hb hx
    obtain ⟨sl2, q2⟩ := any b _ q1 (s0 b o q)
    exact ⟨sl2, q2⟩
  · obtain ⟨o1, q1⟩ := I.base.there b o q hx
    exact n.there b o1 q1
  · obtain ⟨m, ⟨ob, es, ep, ho, r⟩, hl⟩ := I.loc
    obtain ⟨sl, q1⟩ := any _ ob ho fun z => z.2.1 rfl
    refine ⟨m, ⟨_, es, ep, q1, r⟩, fun i x v e1 e2 e3 => ?_⟩
    obtain ⟨u, ru, l⟩ := hl i x v e1 e2 e3
    refine ⟨u, ru, ?_⟩
    rcases l with l | ⟨k, c, hc, z⟩
    · exact .inl l
    · exact .inr ⟨k, c, hc, cl x c hc _ z⟩
  · obtain ⟨v, z⟩ := I.cell x c q
    exact ⟨v, cl x c q v z⟩
  · obtain ⟨q, nn, n1, n2, d⟩ := I.pin p hp
    obtain ⟨m1, m2⟩ := off p.1 p.2 q fun z => z.2.2.2.2.2 p hp rfl
    exact ⟨n.keep p.1 p.2 q (nst p.1 n1 n2) m1 m2, nn, n1, n2, d⟩
  · refine (I.hok a o q).stay (fun b u hb r => ?_) (fun _ z => z) fun _ _ z => z
    rcases hb with rfl | hb
    · obtain ⟨m1, m2⟩ := off b u r (trk b o q)
      exact n.keep b u r (trkf b o q) m1 m2
    · obtain ⟨m1, m2⟩ := off b u r (trk b _ hb)
      exact n.keep b u r (trkf b _ hb) m1 m2

/-- how an exception lies behind a call -/
def CX1 (P : Program) (w : World) : CXT := fun outer H s E ev s' => ∃ (e : Addr) (cls : Value) (dx : Option Addr) (H' : Hp), ev = .ref e ∧ s'.os = s.os ∧ AllBare s'.gens ∧ Un (frs outer) [] H H' s.heap s'.heap ∧ HOk P w H' s'.heap ∧
  s.heap.get? e = none ∧ H' e = none ∧ XObj s'.heap e cls dx (fun T => s.heap.get? T = none ∧ H' T = none) (some .none) ∧ E cls dx H'
/-- exceptions that fulfil E may come up in this body, at a state of the frame -/
def Rz (X : Cx) (E : St → XK) : Prop := ∀ (pins : List (Addr × Obj)) (σ : St) (H : Hp) (s : Shared) (e : Addr) (cls : Value) (dx : Option Addr) (fl : Option Value), (fl = none ∨ fl = some .none) → Inv X pins σ H s → XFp X pins H e →
  XObj s.heap e cls dx (XFp X pins H) fl → E σ cls dx H → X.xe (.ref e) s
theorem XObj.imp {h : Heap} {e : Addr} {cls : Value} {dx : Option Addr} {lo lo' : Addr → Prop} {f : Option Value} (x : XObj h e cls dx lo f) (k : ∀ T, (∃ o, h.get? T = some o) → lo T → lo' T) : XObj h e cls dx lo' f := by
  cases f with
  | none => exact x
  | some f =>
    obtain ⟨oe, vs, T, oT, ts, he, hc, hdx, hd, h1, hT, nT, hgT, r⟩ := x
    exact ⟨oe, vs, T, oT, ts, he, hc, hdx, hd, h1, k T ⟨oT, hgT⟩ hT, nT, hgT, r⟩
/-- a callee's exception reaches the body's wish -/
theorem passes1 {E : St → XK} {σ : St} (hx : X.ex = []) (R : Rz X E) {pins : List (Addr × Obj)} {H : Hp} {s s' : Shared} {ev : Value} (I : Inv X pins σ H s) (c : CX1 X.prog X.w X.stack H s (E σ) ev s') : X.xe ev s' := by
  obtain ⟨e, cls, dx, H', rfl, ho, hg, u, hok, ne, he, x, q⟩ := c
  have I' : Inv X pins σ H' s' := I.call' (ch := []) ho u hok hg (fun b hb => by cases hb)
  have fp : ∀ T, s.heap.get? T = none → H' T = none → XFp X pins H' T := fun T h1 h2 => by
    obtain ⟨_, a2, a3, a4, a5, a6⟩ := I.xfp hx h1
    exact ⟨h2, a2, a3, a4, a5, a6⟩
  exact R pins σ H' s' e cls dx _ (.inr rfl) I' (fp e ne he) (x.imp fun T _ z => fp T z.1 z.2) q
/-- .. leaves a def's body -/
theorem rz_leave {P : Program} {w : World} {K : PySem.W.Frag} {mg : Str → Option Value} {base : Heap} {N : List Str} {qual : Str} {scope : Scope} {f : Addr} {cd : Value} {A : Around} {outer : List Env} {s : Shared} {H : Hp} {E : XK} :
    Rz (cxOf (CX1 P w) P w K mg base N qual scope f cd A outer s H E) (fun _ => E) := by
  intro pins σ H1 s1 e cls dx fl hfl I fe x q
  show wpAny (model P w) _ (leaving _ (.ref e)) _ _ s1
  unfold leaving
  have lo1 : ∀ b, (b = e ∨ (XFp (cxOf (CX1 P w) P w K mg base N qual scope f cd A outer s H E) pins H1 b ∨ s1.heap.get? b = none)) → XFp (cxOf (CX1 P w) P w K mg base N qual scope f cd A outer s H E) pins H1 b ∨ s1.heap.get? b = none := fun b z => z.elim (fun z => .inl (by rw [z]; exact fe)) fun z => z
  have stk : (cxOf (CX1 P w) P w K mg base N qual scope f cd A outer s H E).A.frames = some ((cxOf (CX1 P w) P w K mg base N qual scope f cd A outer s H E).env :: outer) := I.ok.frames
  refine wpAny_bind (xnote (base := base) (lo := fun T => XFp (cxOf (CX1 P w) P w K mg base N qual scope f cd A outer s H E) pins H1 T ∨ s1.heap.get? T = none) hfl stk I.stack rfl (x.imp fun T _ z => .inl z) (fun T z => .inr z) fun h1 n1 x1 => ?_)
  refine xland (fr := frs ((cxOf (CX1 P w) P w K mg base N qual scope f cd A outer s H E).env :: outer)) x1 fun h2 n2 x2 => ?_
  have I2 : Inv (cxOf (CX1 P w) P w K mg base N qual scope f cd A outer s H E) pins σ H1 { s1 with heap := h2 } := I.noted (n1.trans n2) lo1
  refine ⟨e, cls, dx, H1, rfl, I2.os, I2.bare, I2.base, I2.hok, fe.2.2.2.1, fe.1, x2.imp fun T _ z => ?_, q⟩
  rcases z with z | z
  · exact ⟨z.2.2.2.1, z.1⟩
  · have y := I.xfp rfl z
    exact ⟨y.2.2.2.1, y.1⟩
end
end L2
set_option Elab.async false
set_option linter.all false
set_option maxRecDepth 100000
set_option maxHeartbeats 4000000
namespace L2
open PySem PySem.Spec PyProof.Rows

/-! ### calls that may raise -/
def FnAtX (P : Program) (w : World) (K : PySem.W.Frag) (mg : Str → Option Value) (base : Heap) (k : Nat) (x : Str) (ps : List Str) (sp : Sp) : Prop :=
  ∃ f fd, FnOk P w K mg base (CX1 P w) k f fd ps sp ∧ mg x = some (.ref f) ∧ PySem.W.keepIn K (.ref f) = true ∧ Binds K fd ps []
def tCallX (sp : Sp) (E : St → XK) (t : TA) : TE := fun σ H Q => t σ H fun vs H1 => sp vs H1 Q (E σ)
section
variable {X : Cx} {k : Nat} {x : Str} {ps : List Str} {sp : Sp} {e : Expr} {es : List Expr} {t : TA} {p pos : Pos} {E : St → XK}
theorem pe_fnX (F : FnAtX X.prog X.w X.K X.mg X.base k x ps sp) (hx : X.ex = []) (R : Rz X E) (hr : Room k X.A) (hg : Gl X x) (ha : PA X (e :: es) t) (hd : (x == ("__debug__" : Str)) = false := by decide)
    (he : starEach (e :: es) X.env = (false, eval e X.env) :: starEach es X.env := by rfl) (hpl : (backTo pos (starEach es X.env)).any (·.1) = false := by rfl) :
    PE X (.Call (.Name x p) (e :: es) [] pos) (tCallX sp E t) := by
  obtain ⟨f, fd, G, hm, hk, hb⟩ := F
  intro pins s σ H Q I h
  refine wpAny_Call_Name_kw (ld_glob I hg hm ?_ hd)
  refine PySem.W.callWith_K (h₀ := X.base) I.ok.mod.kin hk (thn (ha pos pins s σ H _ I h) fun us s1 ⟨vs, H1, I1, r, q⟩ => ⟨I1.kIn, ?_⟩) he hpl
  have hlen : us.length = ps.length := by rw [← r.length]; exact G.len _ _ _ _ q
  have hbd := hb s1 us I1.kIn (by rw [List.append_nil]; exact hlen)
  rw [List.append_nil] at hbd
  refine wpAny_call (codeAny_mono (G.run X.A X.stack s1 H1 ⟨us, []⟩ us vs Q (E σ) hr I1.env0 hbd r q) fun res s' hq => ?_)
  match res, hq with
  | .error ev, hq => exact passes1 hx R I1 hq
  | .ok (.ret u), hq => exact I1.after hq
end
section
variable {P : Program} {w : World} {K : PySem.W.Frag} {mg : Str → Option Value} {base : Heap}
/-- a def whose exceptions leave it -/
theorem Fun.okX {x qual : Str} {st : Stmt} {f : Addr} {fd : FuncData} {N ps : List Str} {k : Nat} {sp : Sp} (F : Fun K x qual st f fd) (S : FnScope N ps (defScope st)) (len : ∀ vs H Q E, sp vs H Q E → vs.length = ps.length)
    (hbody : ∀ (cdv : Value) (A : Around) (outer : List Env) (s : Shared) (H : Hp) (vs : List V) (Q : VK) (E : XK), Room k (A.deeper (envOfC qual (defScope st) s.heap.objs.size f cdv)) → sp vs H Q E →
      Rz (cxOf (CX1 P w) P w K mg base N qual (defScope st) f cdv A outer s H E) (fun _ => E) →
      ∃ t, PSs (cxOf (CX1 P w) P w K mg base N qual (defScope st) f cdv A outer s H E) (defBody st) t ∧ t { nx := fun _ H' => Q .non H', rt := Q } (start N vs) H) : FnOk P w K mg base (CX1 P w) (k + 1) f fd ps sp := by
  obtain ⟨oc, od, kV, doc, pm, an, cdv, ct, osl, rfl, lk, hcd⟩ := F.ex
  exact fn_of lk hcd S len fun A outer s H vs Q E hr hsp => hbody cdv A outer s H vs Q E hr hsp rz_leave
end

/-! ### raise C(..), C an own class without an __init__ -/
theorem exc_obj {K : PySem.W.Frag} {h : Heap} {C : Addr} {bmB : List Value} {newId : String} (X : K.In h) (q : PySem.W.excIn K C bmB newId = true) :
    ∃ bm N nm qn bs hdct sn sub ab col dd k0 k1 k2 k3 k5 mN, h.get? C = some (excClassObj nm qn C N bs bm hdct sn sub ab col dd k0 k1 k2 k3 k5 newId) ∧ h.Ns N mN ∧ mN "__init__" = none ∧ OwnTail h bmB bm := by
  unfold PySem.W.excIn at q
  split at q
  · rename_i d0 c0 s0 lk
    split at q
    · rename_i C1 tl a0 a1 a2 a3 nn a5 em es
      simp only [Bool.and_eq_true, beq_iff_eq, Bool.not_eq_true'] at q
      obtain ⟨⟨⟨⟨⟨e1, e2⟩, e3⟩, e4⟩, e5⟩, e6⟩ := q
      subst e1 e2
      obtain ⟨f1, f2, f3, f4, f5, f6, f7, f8, f9, f10, f11⟩ := c0
      dsimp only at em e3 e5 e6
      subst em e3
      have ez : s0 = #[a0, a1, a2, a3, some (.builtin nn), a5] := by
        obtain ⟨l⟩ := s0
        simp only at es
        rw [es]
      subst ez
      exact ⟨tl, f4, _, _, _, _, _, _, _, _, _, _, _, _, _, _, _, X _ _ lk, .of_isNs (PySem.W.isNs_of_in X e5), PySem.W.nsMap_none_of_in X e5 e6, PySem.W.tail_of_in X e4⟩
    · cases q
  · cases q
def tRaise (cls : Value) (E : St → XK) (ta : TA) : TS := fun _ σ H => ta σ H fun vs H1 => vs.length ≤ sizeLine ∧ E σ cls none H1
section
variable {X : Cx} {E : St → XK} {x : Str} {C : Addr} {B newId initId : String} {bmB : List Value} {e0 : Expr} {rest : List Expr} {ta : TA} {np cpos pos : Pos}
theorem ps_raise (FB : ExcBaseFacts B newId initId bmB) (q : PySem.W.excIn X.K C bmB newId = true) (hm : X.mg x = some (.ref C)) (hg : Gl X x) (hc : X.calm = true) (hx : X.ex = []) (R : Rz X E) (ha : PA X (e0 :: rest) ta)
    (he : starEach (e0 :: rest) X.env = (false, eval e0 X.env) :: starEach rest X.env := by rfl) (hplain : (backTo cpos (starEach rest X.env)).any (·.1) = false := by rfl) (hd : (x == ("__debug__" : Str)) = false := by decide) :
    PS X (.Raise (some (.Call (.Name x np) (e0 :: rest) [] cpos)) none pos) (tRaise (.ref C) E ta) := by
  intro pins s σ H D I h
  obtain ⟨bm, N, nm, qn, bs, hdct, sn, sub, ab, col, dd, k0, k1, k2, k3, k5, mN, hC, hN, hni, T⟩ := exc_obj I.ok.mod.kin q
  refine wpAny_Raise_call_subT (k5 := k5) (k3 := k3) (k2 := k2) (k1 := k1) (k0 := k0) (dd := dd) (col := col) (ab := ab) (sub := sub) (sn := sn) (hdct := hdct) (bs := bs) (q := qn) (nm := nm)
    (C := C) (N := N) (bm := bm) (mN := mN) FB (T.hasType FB.hasBase) (I.ok.hd hc) (by rw [he]; show (false || (backTo cpos (starEach rest X.env)).any (·.1)) = false; rw [hplain]; rfl) hni (ld_glob I hg hm ⟨rfl, ?_⟩ hd)
  have h2 := ha cpos pins s σ H _ I h
  rw [he] at h2 ⊢
  refine Calls.evalArgs_plain (thn h2 fun us s1 ⟨vs, H1, I1, r, hl, hE⟩ => ⟨rfl, by rw [← r.length]; exact hl, I1.bk _ _ hC, hN.keeps I1.bk, T.keeps I1.bk, fun h' e mk => ?_⟩)
  obtain ⟨t, ht, _, _⟩ := mk.there
  have I2 : Inv X pins σ H1 { s1 with heap := h' } := I1.kept (t' := s1.toks) mk.keeps
  exact R pins σ H1 _ e (.ref C) none none (.inl rfl) I2 (I1.xfp hx mk.new) ⟨_, _, ht, rfl, rfl, rfl, rfl⟩ hE
end

/-! ### try: .. except C as n: .. -/
/-- the exception as the handler knows it -/
def XO (C : Addr) (dx : Option Addr) (e : Addr) : HO := .ext fun h => ∃ oe vs, h.get? e = some oe ∧ oe.cls = .ref C ∧ oe.dict = dx ∧ oe.data = .fields vs
/-- the context within the handler -/
def cxHand (X : Cx) (e : Addr) : Cx := { X with A := X.A.mark (some (.ref e)), calm := false, xe := fun _ _ => False }
/-- the context of the tried suite -/
def cxTry (X : Cx) (pins : List (Addr × Obj)) (xe : Value → Shared → Prop) : Cx := { X with pn := X.pn ++ pins, xe := xe }
section
variable {X : Cx} {pins : List (Addr × Obj)} {σ : St} {H : Hp} {s : Shared}
theorem Inv.toTry (I : Inv X pins σ H s) (xe : Value → Shared → Prop) : Inv (cxTry X pins xe) [] σ H s :=
  ⟨⟨I.ok.mod, I.ok.kind, I.ok.glob, I.ok.blt, I.ok.above, I.ok.inj, I.ok.has, I.ok.cab, I.ok.hd, I.ok.frames, I.ok.stk, I.ok.exf, I.ok.bs, I.ok.bsz, I.ok.noex, I.ok.exfs, I.ok.funs, I.ok.frf⟩, I.os, I.bare, I.base, I.loc, I.cell, I.free, I.freeC,
    fun p hp => I.pin p (by rw [List.append_nil] at hp; exact hp), I.hok, I.len⟩
theorem Inv.ofTry {xe : Value → Shared → Prop} {pins' : List (Addr × Obj)} (I : Inv (cxTry X pins xe) pins' σ H s) : Inv X pins σ H s :=
  ⟨⟨I.ok.mod, I.ok.kind, I.ok.glob, I.ok.blt, I.ok.above, I.ok.inj, I.ok.has, I.ok.cab, I.ok.hd, I.ok.frames, I.ok.stk, I.ok.exf, I.ok.bs, I.ok.bsz, I.ok.noex, I.ok.exfs, I.ok.funs, I.ok.frf⟩, I.os, I.bare, I.base, I.loc, I.cell, I.free, I.freeC,
    fun p hp => I.pin p (List.mem_append_left _ hp), I.hok, I.len⟩
theorem Inv.toHand (I : Inv X pins σ H s) (e : Addr) : Inv (cxHand X e) pins σ H s :=
  ⟨⟨I.ok.mod, I.ok.kind, I.ok.glob, I.ok.blt, I.ok.above, I.ok.inj, I.ok.has, I.ok.cab, fun z => (by cases z), I.ok.frames, I.ok.stk, I.ok.exf, I.ok.bs, I.ok.bsz, I.ok.noex, I.ok.exfs, I.ok.funs, I.ok.frf⟩, I.os, I.bare, I.base, I.loc, I.cell, I.free, I.freeC,
    I.pin, I.hok, I.len⟩
theorem Inv.ofHand {e : Addr} (I : Inv (cxHand X e) pins σ H s) (hd : X.calm = true → X.A.handled = none) : Inv X pins σ H s :=
  ⟨⟨I.ok.mod, I.ok.kind, I.ok.glob, I.ok.blt, I.ok.above, I.ok.inj, I.ok.has, I.ok.cab, hd, I.ok.frames, I.ok.stk, I.ok.exf, I.ok.bs, I.ok.bsz, I.ok.noex, I.ok.exfs, I.ok.funs, I.ok.frf⟩, I.os, I.bare, I.base, I.loc, I.cell, I.free, I.freeC,
    I.pin, I.hok, I.len⟩
/-- an exception is tracked -/
theorem Inv.track {e C : Addr} {dx : Option Addr} {lo : Addr → Prop} {fl : Option Value} (I : Inv X pins σ H s) (hx : X.ex = []) (fe : XFp X pins H e) (x : XObj s.heap e (.ref C) dx lo fl) : Inv X pins σ (upd H e (XO C dx e)) s := by
  obtain ⟨f1, f2, f3, f4, f5, f6⟩ := fe
  obtain ⟨oe, vs, q, hc, hdx, hd⟩ := x.there
  have ne : ∀ b o, H b = some o → b ≠ e := fun b o r => ne_of_none r f1
  refine ⟨I.ok, I.os, I.bare, ⟨I.base.keep, I.base.slot, fun b o r n hh => ?_, I.base.there, fun b xs r => ?_, fun b o u r => ?_, fun b ps r => ?_⟩, I.loc, I.cell, ?_, fun y c r => ?_, fun p hp => ?_, fun a o r => ?_, I.len⟩
  · rw [upd_ne (fun z => by rw [z, f4] at r; cases r)]
    exact I.base.free b o r n hh
  · have r2 := I.base.tups b xs r
    rw [upd_ne (ne b _ r2)]; exact r2
  · have r2 := I.base.frzs b o u r
    rw [upd_ne (ne b _ r2)]; exact r2
  · obtain ⟨m, r2⟩ := I.base.tbls b ps r
    exact ⟨m, by rw [upd_ne (ne b _ r2)]; exact r2⟩
  · rw [upd_ne (Ne.symm f2)]; exact I.free
  · rw [upd_ne (f5 y c r)]; exact I.freeC y c r
  · obtain ⟨a1, a2, a3⟩ := I.pin p hp
    exact ⟨a1, by rw [upd_ne (f6 p hp)]; exact a2, a3⟩
  · by_cases ha : a = e
    · subst ha
      rw [upd_same] at r
      cases r
      exact ⟨⟨oe, vs, q, hc, hdx, hd⟩, ⟨oe, q⟩, fun h1 h2 ⟨o1, v1, p1, p2⟩ k => ⟨o1, v1, k _ p1, p2⟩⟩
    · rw [upd_ne ha] at r
      refine (I.hok a o r).stay (fun _ _ _ z => z) (fun b z => by rw [upd_ne (ne b _ z)]; exact z) fun b ys z => by rw [upd_ne (ne b _ z)]; exact z
end

section
variable {M : Model} {A : Around} {Er : Value → Shared → Prop} {s : Shared} {K : PySem.W.Frag} {e C D : Addr}
/-- does the exception match an own class? -/
theorem matches_own {oe : Obj} {b : Bool} {Q : Bool → Shared → Prop} (X : K.In s.heap) (he : s.heap.get? e = some oe) (hc : oe.cls = .ref C) (hD : (PySem.W.clsIn K D).isSome = true) (hty : PySem.W.typeIn K (.ref D) = some (.type "type"))
    (hB : PySem.W.subIn K (.ref D) (.type "BaseException") = some true) (hs : PySem.W.subIn K (.ref C) (.ref D) = some b) (hq : Q b s) : wpAny M A (excMatches (.ref e) (.ref D)) Q Er s := by
  obtain ⟨hh, g, d, t, os⟩ := s
  have L1 : PySem.W.Looks M hh (typeOf (.ref D)) (.type "type") := PySem.W.looks_typeIn X hty
  have L2 : PySem.W.Looks M hh (isSubtype (.ref D) (.type "BaseException")) true := PySem.W.looks_subIn X hB
  have L3 : PySem.W.Looks M hh (isSubtype (.ref C) (.ref D)) b := PySem.W.looks_subIn X hs
  have L4 : PySem.W.Looks M hh (isType (.ref D)) true := by
    unfold PySem.W.clsIn at hD
    split at hD
    · rename_i c' d' cd' sl' ho
      intro A' Q' E' s' k q
      unfold isType loadHead
      exact wpAny_bind (wpAny_loadPart (k _ _ (X _ _ ho)) (wpAny_pure q))
    · cases hD
  have f := tc_notTuple
  unfold excMatches isExcClass isInstance
  refine wpAny_bind (wpAny_bind (L1.at ?_))
  refine wpAny_of_eq f ?_
  rw [if_neg (by decide)]
  refine wpAny_bind (wpAny_pure ?_)
  simp only [List.forIn_cons, List.forIn_nil]
  refine wpAny_bind (wpAny_bind (wpAny_bind (wpAny_bind (L4.at ?_))))
  rw [if_pos rfl]
  refine L2.at ?_
  simp only [Bool.not_true, Bool.false_eq_true, if_false]
  refine wpAny_pure (wpAny_pure ?_)
  have L0 : PySem.W.Looks M hh (typeOf (.ref e)) (.ref C) := by
    intro A' Q' E' s' k q
    unfold typeOf
    refine wpAny_bind (wpAny_loadPart (k _ _ he) ?_)
    rw [hc]
    exact wpAny_pure q
  refine wpAny_bind (L0.at ?_)
  refine wpAny_bind (wpAny_bind (wpAny_bind (L3.at ?_)))
  cases b with
  | true => exact wpAny_pure (wpAny_pure (wpAny_pure hq))
  | false => exact wpAny_pure (wpAny_pure (wpAny_pure hq))
end
end L2
set_option Elab.async false
set_option linter.all false
set_option maxRecDepth 100000
set_option maxHeartbeats 4000000
namespace L2
open PySem PySem.Spec PyProof.Rows
section
variable {X : Cx} {pins : List (Addr × Obj)} {σ : St} {H : Hp} {s : Shared}
/-- the handler's name is let go -/
theorem Inv.gone {i : Nat} {n : Str} {m : Str → Option Value} {v : Option Value} {h' : Heap} {t : Nat} (I : Inv X pins σ H s) (hN : X.N.Nodup) (hi : X.N[i]? = some n)
    (hm : ∀ (j : Nat) (x : Str) (u : V), X.N[j]? = some x → σ[j]? = some (some u) → Vis X.env.scope x → ∃ w', RelV u w' ∧ Look X.env s.heap m x w')
    (hn : h'.Ns X.env.locals (fun x => if x = n then v else m x)) (sb : Heap.SameBut X.env.locals s.heap h') : Inv X pins (σ.set i none) H { s with heap := h', toks := t } := by
  have neL : ∀ b o, X.s₀.heap.get? b = some o → b ≠ X.env.locals := fun b o q => Nat.ne_of_lt (Nat.lt_of_lt_of_le (Heap.lt_size q) I.ok.above)
  have cl : ∀ x c, X.env.cells.lookup x = some c → ∀ w', s.heap.IsCell c w' → h'.IsCell c w' := fun x c q w' ⟨o, ho, hd⟩ => ⟨o, (sb.2 c (I.cne x c q)).trans ho, hd⟩
  have trk : ∀ b o, H b = some o → b ≠ X.env.locals := fun b o q => ne_of_none q I.free
  refine ⟨I.ok, I.os, I.bare, ⟨fun b o q nn hb hx => (sb.2 b (neL b o q)).trans (I.base.keep b o q nn hb hx), fun b o q nn hb hx => ?_, I.base.free, fun b o q hx => ?_, I.base.tups, I.base.frzs, I.base.tbls⟩, ⟨_, hn, fun j x u e1 e2 e3 => ?_⟩, fun x c q => ?_, I.free, I.freeC, fun p hp => ?_, fun a o q => ?_, ?_⟩
  · obtain ⟨sl, r⟩ := I.base.slot b o q nn hb hx
    exact ⟨sl, (sb.2 b (neL b o q)).trans r⟩
  · obtain ⟨o', r⟩ := I.base.there b o q hx
    exact ⟨o', (sb.2 b (neL b o q)).trans r⟩
  · have hji : j ≠ i := by
      rintro rfl
      by_cases hlt : j < σ.length
      · rw [List.getElem?_set_self hlt] at e2
        cases e2
      · rw [List.getElem?_eq_none (by rw [List.length_set]; omega)] at e2
        cases e2
    rw [List.getElem?_set_ne (Ne.symm hji)] at e2
    obtain ⟨w', r, l⟩ := hm j x u e1 e2 e3
    refine ⟨w', r, ?_⟩
    have hxn : x ≠ n := fun z => hji (nodup_ix hN e1 (by rw [z]; exact hi))
    rcases l with ⟨k, q⟩ | ⟨k, c, hc, z⟩
    · exact .inl ⟨k, by show (if x = n then v else m x) = some w'; rw [if_neg hxn]; exact q⟩
    · exact .inr ⟨k, c, hc, cl x c hc _ z⟩
  · obtain ⟨w', z⟩ := I.cell x c q
    exact ⟨w', cl x c q w' z⟩
  · obtain ⟨q, nn, n1, r⟩ := I.pin p hp
    exact ⟨(sb.2 p.1 n1).trans q, nn, n1, r⟩
  · refine (I.hok a o q).stay (fun b u hb r => ?_) (fun _ z => z) fun _ _ z => z
    rcases hb with rfl | hb
    · exact (sb.2 b (trk b o q)).trans r
    · exact (sb.2 b (trk b _ hb)).trans r
  · show (σ.set i none).length = X.N.length
    rw [List.length_set]
    exact I.len
theorem name_gone {M : Model} {A : Around} {E : Value → Shared → Prop} {i : Nat} {n : Str} {pos : Pos} {Q : Unit → Shared → Prop} (I : Inv X pins σ H s) (hN : X.N.Nodup) (hi : X.N[i]? = some n) (hl : X.env.kindOf n = some .local)
    (h : ∀ s', Inv X pins (σ.set i none) H s' → Q () s') : wpAny M A (do bindName X.env n .none; unbindBehindTheSuite X.env n pos) Q E s := by
  obtain ⟨m, hn, hm⟩ := I.loc
  exact wpAny_nameGoes_keeps hl hn (by rw [I.ok.kind]; rfl) fun h' v hn' sb => h _ (I.gone hN hi hm hn' sb)
end

/-- what the handler is to reach: its name is let go behind it -/
def endH (D : Ends) (i : Nat) : Ends := { nx := fun σ H => D.nx (σ.set i none) H, rt := D.rt, bk := fun σ H => D.bk (σ.set i none) H, ct := fun σ H => D.ct (σ.set i none) H }
def tTry (K : PySem.W.Frag) (i : Nat) (Dc : Addr) (tb : (St → XK) → TS) (th : TS) : TS := fun D σ H =>
  tb (fun σ1 cls dx H1 => ∃ C, cls = .ref C ∧ PySem.W.subIn K (.ref C) (.ref Dc) = some true ∧ ∀ e, H1 e = none → th (endH D i) (σ1.set i (some (.ref e))) (upd H1 e (XO C dx e))) D σ H
/-- what of the text a class must have to be named by an except -/
structure XHd (K : PySem.W.Frag) (D : Addr) : Prop where
  cl : (PySem.W.clsIn K D).isSome = true
  ty : PySem.W.typeIn K (.ref D) = some (.type "type")
  bs : PySem.W.subIn K (.ref D) (.type "BaseException") = some true
section
variable {X : Cx} {body suite : List Stmt} {b0 : Stmt} {n cn : Str} {i : Nat} {Dc : Addr} {tb : (St → XK) → TS} {th : TS} {cp hpos pos : Pos}
theorem ps_try (hc : X.calm = true) (hx : X.ex = []) (hst : X.stack = X.env :: X.outer) (hfm : X.env.frame = some X.env.locals) (hN : X.N.Nodup) (hi : X.N[i]? = some n) (hl : X.env.kindOf n = some .local) (hg : Gl X cn) (hm : X.mg cn = some (.ref Dc)) (hD : XHd X.K Dc)
    (hb : ∀ (pn : List (Addr × Obj)) (xe : Value → Shared → Prop) (E : St → XK), PassesOwn (model X.prog X.w) X.A X.env xe → Rz { X with pn := pn, xe := xe } E → PSs { X with pn := pn, xe := xe } body (tb E))
    (hh : ∀ e, PSs (cxHand X e) (b0 :: suite) th) (hd : (cn == ("__debug__" : Str)) = false := by decide) :
    PS X (.Try body [.ExceptHandler (some (.Name cn cp)) (some n) (b0 :: suite) hpos] [] [] pos) (tTry X.K i Dc tb th) := by
  intro pins s σ H D I h
  refine wpAny_Try_except ?_
  refine wpAny_mono (hb (X.pn ++ pins) (fun e s₁ => wpAny (model X.prog X.w) X.A (noteFrame e X.env) (fun _ s₂ => wpAny (model X.prog X.w) X.A (setFlight e none) (fun _ s₃ => wpAny (model X.prog X.w) X.A (handleBy e X.env [.ExceptHandler (some (.Name cn cp)) (some n) (b0 :: suite) hpos]) (SP X pins D) X.xe s₃) X.xe s₂) X.xe s₁) _
    PassesOwn.looking ?_ [] s σ H D (I.toTry _) h) (fun f s1 q => ?_) fun _ _ q => q
  · -- an exception comes up
    intro pins' σ1 H1 s1 e cls dx fl hfl I1 fe x hE
    obtain ⟨C, rfl, hsub, hth⟩ := hE
    have lo1 : ∀ b, (b = e ∨ (XFp (cxTry X pins X.xe) pins' H1 b ∨ s1.heap.get? b = none)) → XFp (cxTry X pins X.xe) pins' H1 b ∨ s1.heap.get? b = none := fun b z => z.elim (fun z => .inl (by rw [z]; exact fe)) fun z => z
    have hfr : X.A.frames = some (X.env :: X.outer) := by rw [← hst]; exact I.ok.frames
    have hff : s1.heap.FunFrames X.base (X.env :: X.outer) := by rw [← hst]; exact I1.stack
    refine xnote (base := X.base) (lo := fun T => XFp (cxTry X pins X.xe) pins' H1 T ∨ s1.heap.get? T = none) hfl hfr hff hfm (x.imp fun T _ z => .inl z) (fun T z => .inr z) fun h1 n1 x1 => ?_
    refine xland (fr := frs (X.env :: X.outer)) x1 fun h2 n2 x2 => ?_
    have n12 : Noted (frs X.stack) e (fun T => XFp (cxTry X pins X.xe) pins' H1 T ∨ s1.heap.get? T = none) s1.heap h2 := by rw [hst]; exact n1.trans n2
    have I2 : Inv X pins σ1 H1 { s1 with heap := h2 } := (I1.noted n12 lo1).ofTry
    refine wpAny_handleBy_cons (codeAny_handlers_test (ld_glob (I2.toHand e) hg hm ?_ hd)) (by intro z; cases z)
    obtain ⟨oe, vs, q1, q2, q3, q4⟩ := x2.there
    refine matches_own (K := X.K) I2.kIn q1 q2 hD.cl hD.ty hD.bs hsub ?_
    rw [if_pos rfl]
    refine codeAny_handlers_suite_as ?_
    refine xland (fr := frs (X.env :: X.outer)) x2 fun h3 n3 x3 => ?_
    have n13 : Noted (frs X.stack) e (fun T => XFp (cxTry X pins X.xe) pins' H1 T ∨ s1.heap.get? T = none) s1.heap h3 := by rw [hst]; exact (n1.trans n2).trans n3
    have I3 : Inv X pins σ1 H1 { s1 with heap := h3 } := (I1.noted n13 lo1).ofTry
    have feX : XFp X pins H1 e := ⟨fe.1, fe.2.1, fe.2.2.1, fe.2.2.2.1, fe.2.2.2.2.1, fun p hp => fe.2.2.2.2.2 p (List.mem_append_left _ hp)⟩
    have I4 : Inv X pins σ1 (upd H1 e (XO C dx e)) { s1 with heap := h3 } := I3.track hx feX x3
    refine store_ok (X := cxHand X e) (I4.toHand e) hN hi (.inl hl) (v := .ref e) rfl (fun s5 I5 => ?_) (.inr hl)
    refine wpAny_mono (hh e pins s5 _ _ (endH D i) I5 (hth e fe.1)) (fun f s6 q6 => ?_) fun _ _ z => z.elim
    cases f with
    | next =>
      obtain ⟨σ6, H6, J6, r6⟩ := q6
      exact name_gone (J6.ofHand I.ok.hd) hN hi hl fun s7 J7 => ⟨_, H6, J7, r6⟩
    | brk =>
      obtain ⟨σ6, H6, J6, r6⟩ := q6
      exact name_gone (J6.ofHand I.ok.hd) hN hi hl fun s7 J7 => ⟨_, H6, J7, r6⟩
    | cont =>
      obtain ⟨σ6, H6, J6, r6⟩ := q6
      exact name_gone (J6.ofHand I.ok.hd) hN hi hl fun s7 J7 => ⟨_, H6, J7, r6⟩
    | ret u =>
      obtain ⟨v6, σ6, H6, J6, rv, r6⟩ := q6
      exact name_gone (J6.ofHand I.ok.hd) hN hi hl fun s7 J7 => ⟨v6, _, H6, J7, rv, r6⟩
  · cases f with
    | next => obtain ⟨σ1, H1, J, r⟩ := q; exact wpAny_execs_nil ⟨σ1, H1, J.ofTry, r⟩
    | brk => obtain ⟨σ1, H1, J, r⟩ := q; exact ⟨σ1, H1, J.ofTry, r⟩
    | cont => obtain ⟨σ1, H1, J, r⟩ := q; exact ⟨σ1, H1, J.ofTry, r⟩
    | ret u => obtain ⟨v, σ1, H1, J, rv, r⟩ := q; exact ⟨v, σ1, H1, J.ofTry, rv, r⟩
end

/-! ### isinstance of a caught exception -/
section
variable {X : Cx} {K : PySem.W.Frag}
theorem notCls_fields {o : Obj} {vs : Array Value} (h : o.data = .fields vs) : PySem.W.notCls o = true := by
  obtain ⟨c, d, dt, sl⟩ := o
  simp only at h
  subst h
  rfl
theorem xo_inst {C e : Addr} {P : Program} {w : World} {H : Hp} {h : Heap} (x : ObjOk P w H h e (XO C none e)) : ∃ ox odo, PySem.W.InstAt h e ox C odo := by
  obtain ⟨⟨oe, vs, q, hc, hd, hf⟩, _⟩ := x
  exact ⟨oe, none, ⟨q, hc, notCls_fields hf, by rw [hd]; trivial⟩⟩
theorem call_isX {c : Value} {cv : V} (hk : X.K = K) (rc : ∀ u, RelV cv u → u = c) : CallR X (.builtin "isinstance") (fun xs H Q => ∃ (e C : Addr) (b : Bool), xs = [.ref e, cv] ∧ H e = some (XO C none e) ∧ PySem.W.XCls K C ∧ PySem.W.kitOne K (.ref C) c = some b ∧ Q (.bl b) H) := by
  subst hk
  intro pins s σ H xs us Q I r h
  obtain ⟨e, C, b, rfl, he, xc, hb, q⟩ := h
  obtain ⟨u, w', rfl, r1, r2⟩ := vals2 r
  cases (show u = Value.ref e from r1)
  have := rc _ r2
  subst this
  exact PySem.W.kia_one (PySem.W.kitx_exc xc) I.kIn (xo_inst (I.hok e _ he)) hb (by intro z; cases z) fun tk => ⟨.bl b, H, I.tok _, rfl, q⟩
end
end L2
set_option Elab.async false
set_option linter.all false
set_option maxRecDepth 100000
set_option maxHeartbeats 4000000
namespace L2
open PySem PySem.Spec PyProof.Rows
section
variable {X : Cx} {K : PySem.W.Frag}
end
/-- an exception's class against another one -/
structure XPair (K : PySem.W.Frag) (C D : Addr) (b : Bool) : Prop where
  ne : (Value.ref C == Value.ref D) = false
  sub : PySem.W.subIn K (.ref C) (.ref D) = some b
theorem kit_own {K : PySem.W.Frag} {C D : Addr} {b : Bool} (h : XHd K D) (p : XPair K C D b) : PySem.W.kitOne K (.ref C) (.ref D) = some b := by
  unfold PySem.W.kitOne
  rw [if_neg (by rw [p.ne]; decide)]
  show (if ((PySem.W.clsIn K D).isSome && PySem.W.typeIn K (.ref D) == some (.type "type")) = true then PySem.W.subIn K (.ref C) (.ref D) else none) = some b
  rw [if_pos (by rw [h.cl, h.ty]; rfl)]
  exact p.sub
theorem kit_same {K : PySem.W.Frag} {C : Addr} : PySem.W.kitOne K (.ref C) (.ref C) = some true := by
  unfold PySem.W.kitOne
  rw [if_pos (by simp)]
theorem kit_value {K : PySem.W.Frag} {C : Addr} {b : Bool} (h : PySem.W.subIn K (.ref C) (.type "ValueError") = some b) : PySem.W.kitOne K (.ref C) (.type "ValueError") = some b := by
  unfold PySem.W.kitOne
  rw [if_neg (by intro z; cases beq_iff_eq.mp z)]
  show (if PySem.W.kitMeta "ValueError" = true then PySem.W.subIn K (.ref C) (.type "ValueError") else none) = some b
  rw [if_pos (by decide +kernel)]
  exact h
theorem bt_ValueError : bootBuiltins "ValueError" = some (.type "ValueError") := by kernel_rfl
end L2
namespace L2
open PySem
/-- a class of the text's that is raised; another one beside it -/
structure Xr (K : PySem.W.Frag) (mg : Str → Option Value) (C : Addr) (nm : Str) : Prop where
  bd : mg nm = some (.ref C)
  hd : XHd K C
  xc : PySem.W.XCls K C
  ex : PySem.W.excIn K C [.type "ValueError", .type "Exception", .type "BaseException", .type "object"] "ValueError.__new__" = true
  ve : PySem.W.subIn K (.ref C) (.type "ValueError") = some true
structure Xo (K : PySem.W.Frag) (mg : Str → Option Value) (C D : Addr) (nm : Str) (b : Bool) : Prop where
  bd : mg nm = some (.ref D)
  hd : XHd K D
  pr : XPair K C D b
theorem Xo.kit {K : PySem.W.Frag} {mg : Str → Option Value} {C D : Addr} {nm : Str} {b : Bool} (x : Xo K mg C D nm b) : PySem.W.kitOne K (.ref C) (.ref D) = some b := kit_own x.hd x.pr
end L2
set_option Elab.async false
set_option linter.all false
set_option maxRecDepth 100000
set_option maxHeartbeats 4000000
namespace L2
open PySem PySem.Spec PyProof.Rows

/-! ### several objects of an iterator turn -/
section
variable {X : Cx} {pins : List (Addr × Obj)} {σ : St} {H : Hp} {s : Shared} {h' : Heap}
theorem Inv.turnedL {t' : Nat} {fp : List Addr} (I : Inv X pins σ H s) (hf : ∀ b ∈ fp, FpOk X pins H b) (k : ∀ b o, b ∉ fp → s.heap.get? b = some o → h'.get? b = some o) : Inv X pins σ H { s with heap := h', toks := t' } := by
  have nit : ∀ b u, H b = some u → b ∉ fp := fun b u e z => by rw [(hf b z).1] at e; cases e
  refine I.step (g' := s.gens) (d' := s.drawn) (ch := fp) (fun b hb => ?_) (fun b o _ _ hc e _ => k b o hc e) (fun b o _ _ hc e _ => ⟨o.slots, k b o hc e⟩) (fun _ _ _ _ n => n)
    (fun b o hc e => ⟨o, k b o hc e⟩) (fun _ _ e => e) (fun _ _ _ e => e) (fun b ps e => ⟨#[], by rw [e]; simp⟩) (fun m hm => ?_) (fun b u e => ?_) I.bare
  · obtain ⟨f0, f1, f2, f3, f4, f5⟩ := hf b hb
    exact ⟨f3, f1, f4, f5⟩
  · obtain ⟨o, es, ep, ho, r⟩ := hm
    exact ⟨o, es, ep, k _ o (fun z => (hf _ z).2.1 rfl) ho, r⟩
  · refine (I.hok b u e).stay (fun c v hc q => k c v ?_ q) (fun _ q => q) fun _ _ q => q
    rcases hc with z | z
    · rw [z]; exact nit b u e
    · exact nit c _ z
theorem FpOk.upd {b p : Addr} {o : HO} (h : FpOk X pins H b) (n : b ≠ p) : FpOk X pins (upd H p o) b := by
  obtain ⟨f0, r⟩ := h
  exact ⟨by rw [upd_ne n]; exact f0, r⟩
theorem get_push {h : Heap} {o u : Obj} {b : Addr} (ho : o.isFreed = false) (e : (h.push o).get? b = some u) : (b = h.objs.size ∧ u = o) ∨ h.get? b = some u := by
  by_cases hb : b = h.objs.size
  · subst hb
    rw [Heap.get?_push_size _ ho] at e
    exact .inl ⟨rfl, (Option.some.inj e).symm⟩
  · refine .inr ?_
    have lt := Heap.lt_size e
    have lt2 : b < h.objs.size := by
      have : (h.push o).objs.size = h.objs.size + 1 := by simp [Heap.push]
      rw [this] at lt
      exact Nat.lt_of_le_of_ne (Nat.le_of_lt_succ lt) hb
    have : (h.push o).get? b = h.get? b := by
      simp only [Heap.get?, Heap.push]
      rw [Array.getElem?_push_lt lt2, Array.getElem?_eq_getElem lt2]
    rw [← this]
    exact e
end

/-! ### enumerate -/
def Ite (K : PySem.W.Frag) (l : Addr) : It :=
  ⟨fun i H => ∃ xs x, SqL K H l xs ∧ xs[i]? = some x, fun i H x H' => ∃ (p : Addr) (y : V), x = .ref p ∧ H p = none ∧ (∀ xs, SqL K H l xs → xs[i]? = some y) ∧ H' = upd H p (.tup [.int i, y]), fun i H => ∃ xs, SqL K H l xs ∧ xs.length ≤ i⟩
theorem turn_enum {P : Program} {w : World} {K : PySem.W.Frag} {elts : List Expr} {x1 : Nat} {pos : Pos} (l e it : Addr) (hne : e ≠ it) : Turn P w K (.Tuple elts x1 pos) (Ite K l) [e, it] e (fun i h => (∃ old, IsEnum h e it i old) ∧ h.IsListIter it l i) where
  mem := by simp
  obj := fun i h st b hb => by
    obtain ⟨⟨old, he⟩, o, ho, c, d⟩ := st
    have hb' : b = e ∨ b = it := by simpa using hb
    rcases hb' with rfl | rfl
    · exact ⟨_, he, fun v z => by cases z⟩
    · exact ⟨o, ho, fun v z => by rw [d] at z; cases z⟩
  keep := fun i h h' st k => by
    obtain ⟨⟨old, he⟩, o, ho, c, d⟩ := st
    exact ⟨⟨old, k e (by simp) _ he⟩, o, k it (by simp) _ ho, c, d⟩
  item := by
    intro X hP hw hK hc i pins s σ H E I hf st hg
    subst hP hw hK
    obtain ⟨xs, x, hq, hx⟩ := hg
    obtain ⟨its, rv, p, hz⟩ := I.list hq
    obtain ⟨u, hu, ru⟩ := rv.get hx
    obtain ⟨⟨old, he⟩, hi⟩ := st
    have elt := Heap.lt_size he
    have ilt : it < s.heap.objs.size := by obtain ⟨o, ho, _⟩ := id hi; exact Heap.lt_size ho
    refine wpAny_pyNext_enum_item he hi p.isList (x := u) (by simpa using hu) hne fun h' hout hit htup hsz hk => ?_
    refine ⟨_, rfl, ?_⟩
    refine wpAny_letOwnedTupleGo_enum hout fun h2 he2 sb => ?_
    have hfr : H s.heap.objs.size = none := I.hok.fresh (Nat.le_refl _)
    have I0 : Inv X pins σ (upd H s.heap.objs.size (.tup [.int i, x])) { s with heap := s.heap.push { cls := .type "tuple", data := .seq #[.int i s.toks, u] } } :=
      I.laid (t' := s.toks) (fun b u e => Heap.get?_push_of_some _ e) (Nat.le_refl _) ⟨by show 2 ≤ sizeLine; decide, [.int i s.toks, u], .cons ⟨_, rfl⟩ (.cons ru .nil), ⟨_, Heap.get?_push_size _ rfl, rfl, _, rfl⟩⟩
    have ne1 : e ≠ s.heap.objs.size := Nat.ne_of_lt elt
    have ne2 : it ≠ s.heap.objs.size := Nat.ne_of_lt ilt
    have hf0 : ∀ b ∈ [e, it], FpOk X pins (upd H s.heap.objs.size (.tup [.int i, x])) b := fun b hb => by
      have hb' : b = e ∨ b = it := by simpa using hb
      rcases hb' with rfl | rfl
      · exact (hf _ (by simp)).upd ne1
      · exact (hf _ (by simp)).upd ne2
    have I1 := I0.turnedL (h' := h2) (t' := s.toks + 1) hf0 (fun b o hb eb => by
      have b1 : b ≠ e := fun z => hb (by simp [z])
      have b2 : b ≠ it := fun z => hb (by simp [z])
      rw [sb.2 b b1]
      rcases get_push rfl eb with ⟨rfl, rfl⟩ | eb
      · exact htup
      · exact hk b o b1 b2 eb)
    refine ⟨.ref s.heap.objs.size, _, I1, rfl, ⟨s.heap.objs.size, x, rfl, hfr, fun ys hy => by rw [I.list_inj hy hq]; exact hx, rfl⟩, ⟨⟨u, he2⟩, ?_⟩, fun b hb => (hf0 b hb).1⟩
    obtain ⟨o, ho, c, d⟩ := hit
    exact ⟨o, (sb.2 it (Ne.symm hne)).trans ho, c, d⟩
  done := by
    intro X hP hw hK hc i pins s σ H E I hf st hg
    subst hP hw hK
    obtain ⟨xs, hq, hx⟩ := hg
    obtain ⟨its, rv, p, hz⟩ := I.list hq
    obtain ⟨⟨old, he⟩, hi⟩ := st
    have hl := rv.length
    exact wpAny_pyNext_enum_end (I.ok.hd hc) he hi p.isList (by simp; omega) fun h' eb => ⟨rfl, I.turnedL (t' := s.toks) hf (fun b o hb e => eb b o (fun z => hb (by simp [z])) e)⟩
  self := fun _ _ _ _ _ st h => by
    obtain ⟨⟨old, he⟩, _⟩ := st
    exact wpAny_pyIter_enum he h
section
variable {X : Cx}
def iEnum (K : PySem.W.Frag) (ta : TA) : TI := fun σ H R => ta σ H fun vs H1 => ∃ l xs, vs = [.ref l] ∧ SqL K H1 l xs ∧ R (Ite K l) H1
theorem bt_enumerate : bootBuiltins "enumerate" = some (.type "enumerate") := by kernel_rfl
theorem pi_enumK {K : PySem.W.Frag} {a : Expr} {ta : TA} {p pos : Pos} {elts : List Expr} {x1 : Nat} {tpos : Pos} (hK : X.K = K) (hg : Gl X "enumerate") (hm : X.mg "enumerate" = none) (ha : PA X [a] ta) (hs : starEach [a] X.env = [(false, eval a X.env)] := by rfl) : PI X (.Tuple elts x1 tpos) (.Call (.Name "enumerate" p) [a] [] pos) (iEnum K ta) := by
  subst hK
  intro pins s σ H R I h
  refine Call_ (ld_blt I hg hm bt_enumerate (PyProof.Rows.callWith_type1 (thn (ha pos pins s σ H _ I h) fun us s1 ⟨vs, H1, I1, r1, q1⟩ => ?_) hs rfl))
  obtain ⟨l, xs, e, hq, q⟩ := q1
  subst e
  cases r1 with
  | cons r rr =>
    cases rr
    cases r
    obtain ⟨its, rv, pl, hz⟩ := I1.list hq
    refine call_enumerate_list pl.isList fun h' hE hI hsz hk => ?_
    refine wpAny_pyIter_enum hE ?_
    have I2 : Inv X pins σ H1 { s1 with heap := h' } := I1.kept (t' := s1.toks) hk
    refine ⟨s1.heap.objs.size + 1, [s1.heap.objs.size + 1, s1.heap.objs.size], _, _, H1, rfl, I2, turn_enum l _ _ (by simp), ⟨⟨_, hE⟩, hI⟩, fun b hb => ?_, q⟩
    have hb' : b = s1.heap.objs.size + 1 ∨ b = s1.heap.objs.size := by simpa using hb
    rcases hb' with rfl | rfl
    · exact I1.fpOk (Nat.le_succ _) (I1.hok.fresh (Nat.le_succ _))
    · exact I1.fpOk (Nat.le_refl _) (I1.hok.fresh (Nat.le_refl _))
end

/-! ### zip of two lists -/
section
variable {X : Cx}
end
end L2
set_option Elab.async false
set_option linter.all false
set_option maxRecDepth 100000
set_option maxHeartbeats 4000000
namespace L2
open PySem PySem.Spec PyProof.Rows
section
variable {K : PySem.W.Frag} {a l1 l2 D : Addr} {xs ys : List V} {g : TG} {tc : TT} {te : TE} {Q : VK} {σ0 : St} {H1 : Hp}
end
section
variable {K : PySem.W.Frag} {a l1 l2 : Addr} {xs ys : List V} {g : TG} {tb : TS} {D : Ends} {σ : St} {H : Hp}
theorem for_enum (Pv : Nat → St → Hp → Prop) (h0 : Pv 0 σ H) (hl : ∀ i σ H, i ≤ xs.length → Pv i σ H → SqL K H a xs)
    (hs : ∀ i x σ H p, xs[i]? = some x → Pv i σ H → H p = none → g (.ref p) σ (upd H p (.tup [.int i, x])) fun σ2 H2 => tb { D with nx := Pv (i + 1), ct := Pv (i + 1), bk := D.nx } σ2 H2) (hd : ∀ σ H, Pv xs.length σ H → D.nx σ H) :
    ∃ W : Nat → Nat → St → Hp → Prop, (∃ m, W 0 m σ H) ∧ ∀ i m σ H, W i m σ H →
      ((Ite K a).stop i H ∧ D.nx σ H) ∨ ((Ite K a).go i H ∧ ∃ N : St → Hp → Prop, (∀ σ' H', N σ' H' → ∃ m', m' < m ∧ W (i + 1) m' σ' H') ∧ ∀ x H', (Ite K a).yld i H x H' → g x σ H' fun σ2 H2 => tb { D with nx := N, ct := N, bk := D.nx } σ2 H2) := by
  refine ⟨fun i m σ H => m = xs.length - i ∧ i ≤ xs.length ∧ Pv i σ H, ⟨xs.length, by simp, Nat.zero_le _, h0⟩, ?_⟩
  rintro i m σ H ⟨rfl, hi, p⟩
  have q := hl i σ H hi p
  by_cases hlt : i < xs.length
  · refine .inr ⟨⟨xs, xs[i], q, by simp [hlt]⟩, Pv (i + 1), fun σ' H' p' => ⟨xs.length - (i + 1), by omega, rfl, hlt, p'⟩, fun x H' y => ?_⟩
    obtain ⟨t, z, rfl, ht, hz, rfl⟩ := y
    exact hs i z σ _ t (hz xs q) p ht
  · have e : i = xs.length := by omega
    subst e
    exact .inl ⟨⟨xs, q, Nat.le_refl _⟩, hd σ H p⟩
end
/-! ### list.insert, list.count, sum -/
section
variable {X : Cx}
theorem valsInts : ∀ {ns : List Int} {us : List Value}, Vals (ns.map V.int) us → IntsAre us ns
  | [], us, r => by cases r; exact .nil
  | n :: ns, us, r => by
    cases r with
    | cons r rs =>
      obtain ⟨t, rfl⟩ := r
      exact .cons n t (valsInts rs)
theorem preSum_get (ns : List Int) : ∀ n, n ≤ ns.length → preSum (fun i => (ns[i]?).getD 0) n = (ns.take n).sum
  | 0, _ => by simp [preSum]
  | n + 1, h => by
    have ih := preSum_get ns n (by omega)
    have hn : n < ns.length := h
    rw [List.take_succ, List.sum_append, ← ih]
    simp [preSum, hn]
def rSum (K : PySem.W.Frag) : List V → Hp → VK → Prop := fun xs H Q => ∃ (p : Addr) (ns : List Int), xs = [.ref p] ∧ SqL K H p (ns.map V.int) ∧ Q (.int ns.sum) H
theorem call_sumK {K : PySem.W.Frag} (hK : X.K = K) (hc : X.calm = true) : CallR X (.builtin "sum") (rSum K) := by
  subst hK
  intro pins s σ H xs us Q I r h
  obtain ⟨p, ns, rfl, hq, q⟩ := h
  obtain ⟨u, rfl, rx⟩ := vals1 r
  cases rx
  obtain ⟨its, rv, pl, hz⟩ := I.list hq
  have e := valsInts rv
  have hlen : its.length = ns.length := by rw [← rv.length, List.length_map]
  refine call_sum_walkG (wpAny_pyIter_list pl.isList ⟨s.heap.objs.size, [s.heap.objs.size, p], [s.heap.objs.size], its.length, _, _, fun i => (ns[i]?).getD 0, rfl,
    walks_list (show X.A.in1.handled = none from I.ok.hd hc) s.heap.objs.size p ?_ its, ⟨⟨_, Heap.get?_push_size _ rfl, rfl, rfl⟩, ?_⟩, ?_, ?_, ?_⟩)
  · intro z
    obtain ⟨o, ho, _⟩ := pl.isList
    have := Heap.lt_size ho
    rw [← z] at this
    exact Nat.lt_irrefl _ this
  · obtain ⟨o, ho, hcl⟩ := pl.isList
    exact ⟨o, Heap.get?_push_of_some _ ho, hcl⟩
  · intro b hb
    have hsz : (s.heap.push { cls := .type "list_iterator", data := .fields #[.ref p, .int 0 0] }).objs.size = s.heap.objs.size + 1 := by simp [Heap.push]
    have hb' : b = s.heap.objs.size ∨ b = p := by simpa using hb
    show b < (s.heap.push _).objs.size
    rw [hsz]
    rcases hb' with rfl | rfl
    · exact Nat.lt_succ_self _
    · obtain ⟨o, ho, _⟩ := pl.isList
      exact Nat.lt_succ_of_lt (Heap.lt_size ho)
  · intro i v hP
    obtain ⟨j, hj, rj⟩ : ∃ j, ns[i]? = some j ∧ ∃ t, v = .int j t := by
      have hi : i < its.length := (List.getElem?_eq_some_iff.mp hP).1
      have hv := (rv.get (i := i) (x := V.int (ns[i]'(by omega))) (by simp [show i < ns.length by omega]))
      obtain ⟨u, hu, ru⟩ := hv
      rw [hP] at hu
      cases hu
      obtain ⟨t, ht⟩ := ru
      exact ⟨ns[i]'(by omega), by simp [show i < ns.length by omega], t, ht⟩
    obtain ⟨t, rfl⟩ := rj
    exact ⟨t, by simp [hj]⟩
  · intro h' tk t' k
    rw [preSum_get ns its.length (by omega), List.take_of_length_le (by omega)]
    have f := I.fpOk (H' := H) (b := s.heap.objs.size) (Nat.le_refl _) (I.hok.fresh (Nat.le_refl _))
    have I2 : Inv X pins σ H { s with heap := h', toks := tk } := I.turned (h' := h') (t' := tk) (it := s.heap.objs.size) (fun b o hb e => k b o (by simpa using hb) (Heap.get?_push_of_some _ e)) f.1 f.2.1 f.2.2.2.1 f.2.2.2.2.1 f.2.2.2.2.2
    exact ⟨.int _, H, I2, ⟨_, rfl⟩, q⟩
theorem pe_bmK {K : PySem.W.Frag} {T name id : String} {r : V → List V → Hp → VK → Prop} {o e : Expr} {es : List Expr} {to : TE} {t : TA} {apos cpos : Pos} (h : X.K = K) (pa : PlainAttrs T) (slot : Slot T name id) (hty : typeOf (.builtin id) = pure (.type "method_descriptor")) (hm : MtR X id r) (ho : PE X o to) (ha : PA X (e :: es) t)
    (hbase : attributeBase o name X.env (eval o X.env) = eval o X.env := by rfl)
    (hfew : ((backTo cpos (starEach (e :: es) X.env)).all (fun x => !x.1) && (backToKw cpos (keywordEach [] X.env)).all (fun x => x.1.isSome)
      && decide ((e :: es).length + ([] : List Keyword).length + (if ([] : List Keyword).isEmpty then 0 else 1) < 30)) = true := by rfl)
    (hline : (apos.endLine == cpos.line) = true := by rfl) (hs : starEach (e :: es) X.env = (false, eval e X.env) :: starEach es X.env := by rfl) (hplain : (backTo cpos (starEach es X.env)).any (·.1) = false := by rfl) :
    PE X (.Call (.Attribute o name apos) (e :: es) [] cpos) (tBM K T r to t) := by
  subst h
  exact pe_bm pa slot hty hm ho ha hbase hfew hline hs hplain
theorem pg_tupK {K : PySem.W.Frag} {es : List Expr} {k : Nat} {t : TGs} {n : Nat} {pos : Pos} (hK : X.K = K) (hc : X.calm = true) (h : PGs X es t)
    (hn : (assignEach es X.env).length = n := by rfl) (hst : (assignEach es X.env).findIdx? (·.1) = none := by rfl) : PG X (.Tuple es k pos) (gTup K n t) := by subst hK; exact pg_tup hc h hn hst
end
end L2
set_option Elab.async false
set_option linter.all false
set_option maxRecDepth 100000
set_option maxHeartbeats 4000000
namespace L2
open PySem
/-! ### comprehensions whose block writes nothing that stood -/
section
variable {K : PySem.W.Frag} {a D : Addr} {xs : List V} {tc : TT} {te : TE} {Q : VK} {rest : St} {H1 : Hp}
theorem fm_succ {α : Type} (f : Nat → Option α) (n : Nat) : (List.range (n + 1)).filterMap f = (List.range n).filterMap f ++ (f n).toList := by
  rw [List.range_succ, List.filterMap_append]
  cases h : f n <;> simp [h]
theorem fm_len {α : Type} (f : Nat → Option α) (n : Nat) : ((List.range n).filterMap f).length ≤ n := by
  have := List.length_filterMap_le f (List.range n)
  simpa using this
theorem Same.newly {H H1 : Hp} {D : Addr} {o : HO} (h : Same H H1) (n : H D = none) : Same H (upd H1 D o) := fun b u e => by rw [upd_ne (ne_of_none e n)]; exact h b u e
/-- over a list: what is told of each item is known ahead -/
theorem comp_val (f : Nat → Option V) (hD : H1 D = none) (hq : SqL K H1 a xs) (hx : xs.length ≤ 100000)
    (hs : ∀ i x H (G : Hp → Prop) (F : VK), xs[i]? = some x → Same H1 H → (∀ H', Same H H' → f i = none → G H') → (∀ y H', Same H H' → f i = some y → F y H') → tc (some x :: rest) H fun b H3 => if b = true then te (some x :: rest) H3 F else G H3)
    (hd : ∀ H, Same H1 H → H D = some (.lst ((List.range xs.length).filterMap f)) → Q (.ref D) H) : CompW (Itl K a) (gName 0) tc te Q D (none :: rest) H1 := by
  refine comp_list (K := K) (xs := xs) (fun i σ H => (∃ v, σ = v :: rest) ∧ Same H1 H ∧ H D = some (.lst ((List.range i).filterMap f))) ⟨⟨none, rfl⟩, same_new hD, upd_same⟩ (fun i σ H _ ⟨_, sm, _⟩ => sm.sqL _ _ hq) ?_ (fun σ H ⟨_, sm, e⟩ => hd H sm e)
  rintro i x σ H hi ⟨⟨v, rfl⟩, sm, e⟩
  have hil : i < xs.length := (List.getElem?_eq_some_iff.mp hi).1
  refine hs i x H _ _ hi sm (fun H3 s3 ef => ⟨⟨_, rfl⟩, sm.trans s3, by rw [s3 _ _ e, fm_succ, ef]; simp⟩) (fun y H4 s4 ef => ?_)
  refine ⟨_, s4 _ _ e, ?_, ⟨_, rfl⟩, (sm.trans s4).newly hD, ?_⟩
  · have := fm_len f i
    rw [sizeLine_eq]; omega
  · rw [upd_same, fm_succ, ef]; rfl
theorem comp_valT (f : Nat → Option V) (hD : H1 D = none) (hq : H1 a = some (.tup xs)) (hx : xs.length ≤ 100000)
    (hs : ∀ i x H (G : Hp → Prop) (F : VK), xs[i]? = some x → Same H1 H → (∀ H', Same H H' → f i = none → G H') → (∀ y H', Same H H' → f i = some y → F y H') → tc (some x :: rest) H fun b H3 => if b = true then te (some x :: rest) H3 F else G H3)
    (hd : ∀ H, Same H1 H → H D = some (.lst ((List.range xs.length).filterMap f)) → Q (.ref D) H) : CompW (Itt K a) (gName 0) tc te Q D (none :: rest) H1 := by
  refine comp_tup (K := K) (xs := xs) (fun i σ H => (∃ v, σ = v :: rest) ∧ Same H1 H ∧ H D = some (.lst ((List.range i).filterMap f))) ⟨⟨none, rfl⟩, same_new hD, upd_same⟩ (fun i σ H _ ⟨_, sm, _⟩ => SqT.of (sm.tups _ _ hq)) ?_ (fun σ H ⟨_, sm, e⟩ => hd H sm e)
  rintro i x σ H hi ⟨⟨v, rfl⟩, sm, e⟩
  have hil : i < xs.length := (List.getElem?_eq_some_iff.mp hi).1
  refine hs i x H _ _ hi sm (fun H3 s3 ef => ⟨⟨_, rfl⟩, sm.trans s3, by rw [s3 _ _ e, fm_succ, ef]; simp⟩) (fun y H4 s4 ef => ?_)
  refine ⟨_, s4 _ _ e, ?_, ⟨_, rfl⟩, (sm.trans s4).newly hD, ?_⟩
  · have := fm_len f i
    rw [sizeLine_eq]; omega
  · rw [upd_same, fm_succ, ef]; rfl
theorem comp_valR {n : Nat} (f : Nat → Option V) (hD : H1 D = none) (hx : n ≤ 100000)
    (hs : ∀ i H (G : Hp → Prop) (F : VK), i < n → Same H1 H → (∀ H', Same H H' → f i = none → G H') → (∀ y H', Same H H' → f i = some y → F y H') → tc (some (.int (0 + i)) :: rest) H fun b H3 => if b = true then te (some (.int (0 + i)) :: rest) H3 F else G H3)
    (hd : ∀ H, Same H1 H → H D = some (.lst ((List.range n).filterMap f)) → Q (.ref D) H) : CompW (Itr 0 n) (gName 0) tc te Q D (none :: rest) H1 := by
  refine comp_range (lo := 0) (n := n) (fun i σ H => (∃ v, σ = v :: rest) ∧ Same H1 H ∧ H D = some (.lst ((List.range i).filterMap f))) ⟨⟨none, rfl⟩, same_new hD, upd_same⟩ ?_ (fun σ H ⟨_, sm, e⟩ => hd H sm e)
  rintro i σ H hi ⟨⟨v, rfl⟩, sm, e⟩
  refine hs i H _ _ hi sm (fun H3 s3 ef => ⟨⟨_, rfl⟩, sm.trans s3, by rw [s3 _ _ e, fm_succ, ef]; simp⟩) (fun y H4 s4 ef => ?_)
  refine ⟨_, s4 _ _ e, ?_, ⟨_, rfl⟩, (sm.trans s4).newly hD, ?_⟩
  · have := fm_len f i
    rw [sizeLine_eq]; omega
  · rw [upd_same, fm_succ, ef]; rfl
theorem fm_congr {α β : Type} {f g : α → Option β} : ∀ (l : List α) (_ : True) (h : ∀ x ∈ l, f x = g x), l.filterMap f = l.filterMap g
  | [], _, _ => rfl
  | x :: l, _, h => by
    rw [List.filterMap_cons, List.filterMap_cons, h x (by simp), fm_congr l trivial fun y hy => h y (by simp [hy])]
theorem snocInd {α : Type} {P : List α → Prop} (h0 : P []) (hs : ∀ xs x, P xs → P (xs ++ [x])) (xs : List α) : P xs := by
  rw [← List.reverse_reverse xs]
  induction xs.reverse with
  | nil => exact h0
  | cons x l ih => rw [List.reverse_cons]; exact hs _ _ ih
theorem fm_some {α β : Type} (xs : List α) (g : α → β) : (List.range xs.length).filterMap (fun i => (xs[i]?).map g) = xs.map g := by
  refine snocInd (P := fun xs => (List.range xs.length).filterMap (fun i => (xs[i]?).map g) = xs.map g) rfl (fun xs x ih => ?_) xs
  · show (List.range (xs ++ [x]).length).filterMap (fun i => ((xs ++ [x])[i]?).map g) = (xs ++ [x]).map g
    rw [List.length_append, List.length_singleton, fm_succ, List.map_append]
    congr 1
    · rw [← ih]
      refine fm_congr _ trivial fun i hi => ?_
      have : i < xs.length := by simpa using hi
      rw [List.getElem?_append_left this]
    · simp
theorem fm_filter {α β : Type} (xs : List α) (p : α → Bool) (g : α → β) : (List.range xs.length).filterMap (fun i => (xs[i]?).bind fun x => if p x then some (g x) else none) = (xs.filter p).map g := by
  refine snocInd (P := fun xs => (List.range xs.length).filterMap (fun i => (xs[i]?).bind fun x => if p x then some (g x) else none) = (xs.filter p).map g) rfl (fun xs x ih => ?_) xs
  · show (List.range (xs ++ [x]).length).filterMap (fun i => ((xs ++ [x])[i]?).bind fun x => if p x then some (g x) else none) = ((xs ++ [x]).filter p).map g
    rw [List.length_append, List.length_singleton, fm_succ, List.filter_append, List.map_append]
    congr 1
    · rw [← ih]
      refine fm_congr _ trivial fun i hi => ?_
      have : i < xs.length := by simpa using hi
      rw [List.getElem?_append_left this]
    · cases h : p x <;> simp [h]
end
end L2
namespace L2
open PySem
section
variable {X : Cx} {K : PySem.W.Frag}
end
end L2
namespace L2
open PySem
theorem seq_cps {a b : TS} {D : Ends} {σ : St} {H : Hp} (P : St → Hp → Prop) (h1 : ∀ D' : Ends, (∀ σ' H', P σ' H' → D'.nx σ' H') → D'.rt = D.rt → a D' σ H) (h2 : ∀ σ' H', P σ' H' → b D σ' H') : tSeq a b D σ H := h1 _ h2 rfl
end L2
namespace L2
open PySem PySem.Spec PyProof.Rows
section
variable {X : Cx} {K : PySem.W.Frag} {a : Expr} {ta : TE} {pos : Pos}
end
end L2
set_option Elab.async false
set_option linter.all false
set_option maxRecDepth 100000
set_option maxHeartbeats 4000000
namespace L2
open PySem PySem.Spec PyProof.Rows
section
variable {X : Cx} {K : PySem.W.Frag}
end
section
variable {K : PySem.W.Frag} {a D : Addr} {xs : List V} {te : TE} {Q : VK} {rest : St} {H1 : Hp}
theorem dats_snoc {H : Hp} {vs : List V} {ds : List PyData} {v : V} {d : PyData} (h : Dats H vs ds) (hd : Dat H v d) : Dats H (vs ++ [v]) (ds ++ [d]) := Dats.append h (by simp only [Dats, and_true]; exact hd)
end
end L2
set_option Elab.async false
set_option linter.all false
namespace L2
open PySem
/-- a name of the module that is a number or a text -/
def Gv (mg : Str → Option Value) (x : Str) (v : V) : Prop := ∃ u, mg x = some u ∧ RelV v u
end L2
set_option Elab.async false
set_option linter.all false
set_option maxRecDepth 100000
set_option maxHeartbeats 4000000
namespace L2
open PySem PySem.Spec PyProof.Rows
section
variable {prog : Program} {w : World} {K : Type} [DecidableEq K] {knd : HeapKind prog w K}
end
section
variable {X : Cx} {o e f : Expr} {td ty tx : TE} {apos cpos : Pos}
end
end L2
namespace L2
open PySem PySem.Spec PyProof.Rows
section
variable {X : Cx} {K : PySem.W.Frag}
end
end L2
namespace L2
open PySem
end L2
set_option Elab.async false
set_option linter.all false
set_option maxRecDepth 100000
set_option maxHeartbeats 4000000
namespace L2
open PySem PySem.Spec PyProof.Rows
section
variable {X : Cx} {K : PySem.W.Frag}
theorem valsStrs : ∀ {ys : List Str} {us : List Value}, Vals (ys.map V.str) us → StrsAre us ys
  | [], us, r => by cases r; exact .nil
  | y :: ys, us, r => by
    cases r with
    | cons r rs =>
      obtain ⟨t, rfl⟩ := r
      exact .cons y t (valsStrs rs)
def rJoin (K : PySem.W.Frag) : V → List V → Hp → VK → Prop := fun x vs H Q => ∃ (sep : Str) (l : Addr) (ys : List Str), x = .str sep ∧ vs = [.ref l] ∧ SqL K H l (ys.map V.str) ∧ (ys.map (·.length)).sum + ys.length * sep.length ≤ 16777216 ∧ Q (.str (Txt.join sep ys)) H
theorem mt_joinK (h : X.K = K) : MtR X "str.join" (rJoin K) := by
  subst h
  intro pins s σ H x vs v us Q I rx rv h
  obtain ⟨sep, l, ys, rfl, rfl, hq, hz, q⟩ := h
  obtain ⟨t, rfl⟩ := rx
  obtain ⟨u, rfl, ru⟩ := rv.one
  cases ru
  obtain ⟨its, r', pl, hz'⟩ := I.list hq
  exact join_list pl.isList (by simpa using valsStrs r') hz fun t' k => ⟨.str _, H, I.tok _, ⟨_, rfl⟩, q⟩
end
/-! ### texts put together -/
def cat : List Str → Str
  | [] => Str.empty
  | x :: xs => x ++ cat xs
theorem str_empty_append (a : Str) : Str.empty ++ a = a := by
  cases a
  show (⟨#[] ++ _⟩ : Str) = _
  simp
theorem str_append_empty (a : Str) : a ++ Str.empty = a := by
  cases a
  show (⟨_ ++ #[]⟩ : Str) = _
  simp
theorem glued_cons (sep x : Str) (xs : List Str) : Txt.join sep (x :: xs) = x ++ cat (xs.map (sep ++ ·)) := by
  have key : ∀ (xs : List Str) (a : Str), (⟨xs.foldl (fun acc p => acc ++ sep.cps ++ p.cps) a.cps⟩ : Str) = a ++ cat (xs.map (sep ++ ·)) := by
    intro xs
    induction xs with
    | nil => intro a; exact (str_append_empty a).symm
    | cons y ys ih =>
      intro a
      have := ih ⟨a.cps ++ sep.cps ++ y.cps⟩
      rw [List.foldl_cons, this, List.map_cons, cat, ← Str.append_assoc, ← Str.append_assoc]
      rfl
  exact key xs x
theorem join_empty (xs : List Str) : Txt.join Str.empty xs = cat xs := by
  cases xs with
  | nil => rfl
  | cons x xs =>
    rw [glued_cons]
    congr 1
    have : xs.map (Str.empty ++ ·) = xs := by
      conv => rhs; rw [← List.map_id xs]
      exact List.map_congr_left fun x _ => str_empty_append x
    rw [this]
theorem num_len : ∀ n : Fin 1001, (Str.ofString (toString (n.val : Int))).length ≤ 4 := by decide +kernel
theorem num_len' {i : Int} (h0 : 0 ≤ i) (h1 : i ≤ 1000) : (Str.ofString (toString i)).length ≤ 4 := by
  have := num_len ⟨i.toNat, by omega⟩
  simp only at this
  rwa [show ((i.toNat : Nat) : Int) = i by omega] at this
theorem num_log {i : Int} (h0 : 0 ≤ i) (h1 : i ≤ 1000) : i.natAbs.log2 < 1920 := by
  have : i.natAbs.log2 ≤ i.natAbs := Nat.log2_le_self _
  omega
end L2
set_option Elab.async false
set_option linter.all false
set_option maxRecDepth 100000
set_option maxHeartbeats 4000000
namespace L2
open PySem PySem.Spec PyProof.Rows
section
variable {X : Cx} {body suite : List Stmt} {b0 : Stmt} {cn : Str} {Dc : Addr} {tb : (St → XK) → TS} {th : TS} {cp hpos pos : Pos}
end
end L2
namespace L2
open PySem PySem.Spec PyProof.Rows
section
variable {X : Cx}
end
end L2
set_option Elab.async false
set_option linter.all false
set_option maxRecDepth 100000
set_option maxHeartbeats 4000000
namespace L2
open PySem PySem.Spec PyProof.Rows
section
variable {X : Cx} {pins : List (Addr × Obj)} {σ : St} {H : Hp} {s : Shared} {d : Addr} {u u' : HO}
end
/-! ### over a dict's keys: the dict is held as it stands till the walk is over -/
section
variable {X : Cx} {tg : Expr}
end
section
variable {d D : Addr} {o : Obj} {kvs : List (Key × V)} {tc : TT} {te : TE} {Q : VK} {rest : St} {H1 : Hp}
end
/-! ### let go again -/
end L2
set_option Elab.async false
set_option linter.all false
set_option maxRecDepth 100000
set_option maxHeartbeats 4000000
namespace L2
open PySem PySem.Spec PyProof.Rows
/-! ### range downwards -/
section
variable {X : Cx} {tg : Expr}
/-! ### the least of a list -/
end
end L2
set_option Elab.async false
set_option linter.all false
set_option maxRecDepth 100000
set_option maxHeartbeats 4000000
namespace L2
open PySem PySem.Spec PyProof.Rows
/-! ### reversed of a list -/
section
variable {X : Cx} {tg : Expr}
/-! ### list(range(a, b)) -/
end
end L2
set_option Elab.async false
set_option linter.all false
set_option maxRecDepth 100000
set_option maxHeartbeats 4000000
namespace L2
open PySem PySem.Spec PyProof.Rows
/-! ### in, for lists of data -/
def rInD (K : PySem.W.Frag) (neg : Bool) : R2 := fun x y H Q => ∃ (p : Addr) (vs : List V) (d : PyData) (ds : List PyData), y = .ref p ∧ SqL K H p vs ∧ Dats H vs ds ∧ Dat H x d ∧ SeqAt.shaped d = true ∧ (∀ e ∈ ds, SeqAt.shaped e = true) ∧ Q (.bl (if neg then !(ds.any fun e => PyData.eqv e d) else ds.any fun e => PyData.eqv e d)) H
section
variable {X : Cx}
theorem vals_at {H : Hp} {pins : List (Addr × Obj)} {σ : St} {s : Shared} (I : Inv X pins σ H s) : ∀ {vs : List V} {us : List Value} {ds : List PyData}, Vals vs us → Dats H vs ds → ∀ u ∈ us, ∃ e ∈ ds, ∃ as, Reads s.heap u e as
  | [], _, _, .nil, _ => fun u hu => by cases hu
  | v :: vs, _, d :: ds, .cons r rs, h => fun u hu => by
    simp only [Dats] at h
    rcases List.mem_cons.mp hu with rfl | hu
    · obtain ⟨as, ra⟩ := I.reads d h.1 r
      exact ⟨d, by simp, as, ra⟩
    · obtain ⟨e, he, q⟩ := vals_at I rs h.2 u hu
      exact ⟨e, by simp [he], q⟩
  | _ :: _, _, [], .cons _ _, h => by simp only [Dats] at h
theorem vals_to {H : Hp} {pins : List (Addr × Obj)} {σ : St} {s : Shared} (I : Inv X pins σ H s) : ∀ {vs : List V} {us : List Value} {ds : List PyData}, Vals vs us → Dats H vs ds → ∀ e ∈ ds, ∃ u ∈ us, ∃ as, Reads s.heap u e as
  | [], _, [], .nil, _ => fun e he => by cases he
  | [], _, _ :: _, .nil, h => by simp only [Dats] at h
  | v :: vs, _, d :: ds, .cons r rs, h => fun e he => by
    simp only [Dats] at h
    rcases List.mem_cons.mp he with rfl | he
    · obtain ⟨as, ra⟩ := I.reads e h.1 r
      exact ⟨_, by simp, as, ra⟩
    · obtain ⟨u, hu, q⟩ := vals_to I rs h.2 e he
      exact ⟨u, by simp [hu], q⟩
  | _ :: _, _, [], .cons _ _, h => by simp only [Dats] at h
open Classical in
noncomputable def inU (s : Shared) (ds : List PyData) (d : PyData) (u : Value) : Bool := decide (∃ e ∈ ds, (∃ as, Reads s.heap u e as) ∧ PyData.eqv e d = true)
open Classical in
theorem inU_iff {s : Shared} {ds : List PyData} {d : PyData} {u : Value} : inU s ds d u = true ↔ ∃ e ∈ ds, (∃ as, Reads s.heap u e as) ∧ PyData.eqv e d = true := by unfold inU; exact decide_eq_true_iff
theorem inU_at {A : Around} {s : Shared} {ds : List PyData} {d : PyData} {u v : Value} {bs : List Addr} (hd : SeqAt.shaped d = true) (hds : ∀ e ∈ ds, SeqAt.shaped e = true) (hu : A.units + 64 < cLine) (rv : Reads s.heap v d bs) (h : ∃ e ∈ ds, ∃ as, Reads s.heap u e as) : SeqAt.EqAt A s u v (inU s ds d u) := by
  by_cases q : ∃ e ∈ ds, (∃ as, Reads s.heap u e as) ∧ PyData.eqv e d = true
  · have : inU s ds d u = true := inU_iff.mpr q
    rw [this]
    obtain ⟨e, he, ⟨as, ra⟩, ee⟩ := q
    have := SeqAt.eqAt_reads e d A s u v as bs ra rv (SeqAt.canLay_of_shaped (hds e he)) (SeqAt.canLay_of_shaped hd) (SeqAt.room_of_shaped (hds e he) hu)
    rwa [ee] at this
  · have : inU s ds d u = false := by
      cases z : inU s ds d u with
      | false => rfl
      | true => exact absurd (inU_iff.mp z) q
    rw [this]
    obtain ⟨e, he, as, ra⟩ := h
    have ee : PyData.eqv e d = false := by
      cases z : PyData.eqv e d with
      | false => rfl
      | true => exact absurd ⟨e, he, ⟨as, ra⟩, z⟩ q
    have := SeqAt.eqAt_reads e d A s u v as bs ra rv (SeqAt.canLay_of_shaped (hds e he)) (SeqAt.canLay_of_shaped hd) (SeqAt.room_of_shaped (hds e he) hu)
    rwa [ee] at this
theorem inU_any {H : Hp} {pins : List (Addr × Obj)} {σ : St} {s : Shared} (I : Inv X pins σ H s) {vs : List V} {us : List Value} {ds : List PyData} {d : PyData} (r : Vals vs us) (h : Dats H vs ds) : us.toArray.any (inU s ds d) = ds.any fun e => PyData.eqv e d := by
  rw [show us.toArray.any (inU s ds d) = us.any (inU s ds d) by simp, Bool.eq_iff_iff, List.any_eq_true, List.any_eq_true]
  constructor
  · rintro ⟨u, hu, e⟩
    obtain ⟨e, he, _, ee⟩ := inU_iff.mp e
    exact ⟨e, he, ee⟩
  · rintro ⟨e, he, ee⟩
    obtain ⟨u, hu, q⟩ := vals_to I r h e he
    exact ⟨u, hu, inU_iff.mpr ⟨e, he, q, ee⟩⟩
theorem op_inDK {K : PySem.W.Frag} (hK : X.K = K) (hu : X.A.in1.units + 64 < cLine) : OpR X (compareOp .In) (rInD K false) := by
  subst hK
  intro pins s σ H x y v u Q I rx ry h
  obtain ⟨p, vs, d, ds, rfl, hq, hds, hd, s1, s2, q⟩ := h
  cases ry
  obtain ⟨its, r, pl, hz⟩ := I.list hq
  obtain ⟨bs, rv⟩ := I.reads d hd rx
  refine SeqAt.in_listAt (inU s ds d) pl.isList (fun w hw => inU_at s1 s2 hu rv (vals_at I r hds w (by simpa using hw))) ⟨.bl _, H, I, rfl, ?_⟩
  rw [inU_any I r hds]
  exact q
end
end L2
set_option Elab.async false
set_option linter.all false
set_option maxRecDepth 100000
set_option maxHeartbeats 4000000
namespace L2
open PySem PySem.Spec PyProof.Rows
/-! ### a def that may raise, where it doesn't -/
/-! ### data that stay -/
section
variable {H H' : Hp}
mutual
theorem Dat.same (k : Same H H') : ∀ (d : PyData) {v : V}, Dat H v d → Dat H' v d
  | .none, _, h => by simp only [Dat] at h ⊢; exact h
  | .bool _, _, h => by simp only [Dat] at h ⊢; exact h
  | .int _, _, h => by simp only [Dat] at h ⊢; exact h
  | .str _, _, h => by simp only [Dat] at h ⊢; exact h
  | .list ds, _, h => by simp only [Dat] at h ⊢; obtain ⟨a, vs, e, q, r⟩ := h; exact ⟨a, vs, e, k _ _ q, Dats.same k ds r⟩
  | .tuple ds, _, h => by simp only [Dat] at h ⊢; obtain ⟨a, vs, e, q, r⟩ := h; exact ⟨a, vs, e, k _ _ q, Dats.same k ds r⟩
  | .dict _, _, h => by simp only [Dat] at h
theorem Dats.same (k : Same H H') : ∀ (ds : List PyData) {vs : List V}, Dats H vs ds → Dats H' vs ds
  | [], [], _ => by simp only [Dats]
  | d :: ds, v :: vs, h => by simp only [Dats] at h ⊢; exact ⟨Dat.same k d h.1, Dats.same k ds h.2⟩
  | _ :: _, [], h => by simp only [Dats] at h
  | [], _ :: _, h => by simp only [Dats] at h
end
end
/-! ### isinstance(x, (t1, t2)) of plain data -/
section
variable {X : Cx} {K : PySem.W.Frag}
end
section
variable {K : PySem.W.Frag} {a D : Addr} {xs : List V} {tc : TT} {te : TE} {Q : VK} {rest : St} {H1 : Hp}
theorem imms_fm {f : Nat → Option PyData} (hf : ∀ i d, f i = some d → imm d = true) : ∀ l : List Nat, imms (l.filterMap f) = true
  | [] => rfl
  | i :: l => by
    rw [List.filterMap_cons]
    cases e : f i with
    | none => exact imms_fm hf l
    | some d => simp only [imms, hf i d e, imms_fm hf l, Bool.and_self]
/-- items that are new data of their own, over a list, some left out -/
theorem comp_datL (f : Nat → Option PyData) (hf : ∀ i d, f i = some d → imm d = true) (hD : H1 D = none) (hq : SqL K H1 a xs) (hx : xs.length ≤ 100000)
    (hs : ∀ i x H (G : Hp → Prop) (F : VK), xs[i]? = some x → Same H1 H → (∀ H', Same H H' → f i = none → G H') → (∀ y d H', Same H H' → f i = some d → Dat H' y d → F y H') → tc (some x :: rest) H fun b H3 => if b = true then te (some x :: rest) H3 F else G H3)
    (hd : ∀ H vs, Same H1 H → H D = some (.lst vs) → Dats H vs ((List.range xs.length).filterMap f) → Q (.ref D) H) : CompW (Itl K a) (gName 0) tc te Q D (none :: rest) H1 := by
  refine comp_list (K := K) (xs := xs) (fun i σ H => (∃ v, σ = v :: rest) ∧ Same H1 H ∧ ∃ vs, H D = some (.lst vs) ∧ Dats H vs ((List.range i).filterMap f)) ⟨⟨none, rfl⟩, same_new hD, [], upd_same, by simp [Dats]⟩ (fun i σ H _ ⟨_, sm, _⟩ => sm.sqL _ _ hq) ?_ (fun σ H ⟨_, sm, vs, e, d⟩ => hd H vs sm e d)
  rintro i x σ H hi ⟨⟨v, rfl⟩, sm, vs, e, d⟩
  have hil : i < xs.length := (List.getElem?_eq_some_iff.mp hi).1
  have im := imms_fm hf (List.range i)
  refine hs i x H _ _ hi sm (fun H3 s3 ef => ⟨⟨_, rfl⟩, sm.trans s3, vs, s3 _ _ e, ?_⟩) (fun y dd H4 s4 ef dy => ?_)
  · rw [fm_succ, ef]
    simpa using Dats.keep s3.tups _ im d
  · have hl : vs.length ≤ i := by rw [d.length]; exact fm_len f i
    have kp : Kp D H4 (upd H4 D (.lst (vs ++ [y]))) := Kp.set
    have tp := kp.tups (s4 _ _ e)
    refine ⟨vs, s4 _ _ e, ?_, ⟨_, rfl⟩, (sm.trans s4).newly hD, vs ++ [y], upd_same, ?_⟩
    · rw [sizeLine_eq]; omega
    · rw [fm_succ, ef]
      exact dats_snoc (Dats.keep (fun a xs h => tp _ _ (s4.tups _ _ h)) _ im d) (Dat.keep tp _ (hf i dd ef) dy)
end
/-! ### t + u, any tuples -/
section
variable {X : Cx}
def rCatTU : R2 := fun x y H Q => ∃ a b xs ys, x = .ref a ∧ y = .ref b ∧ H a = some (.tup xs) ∧ H b = some (.tup ys) ∧ xs.length + ys.length ≤ sizeLine ∧ ∀ p H', H' p = some (.tup (xs ++ ys)) → Same H H' → Q (.ref p) H'
theorem op_catTU : OpR X (binaryOp .Add) rCatTU := by
  intro pins s σ H x y v u Q I rx ry h
  obtain ⟨a, b, xs, ys, rfl, rfl, ha, hb, hz, q⟩ := h
  cases rx
  cases ry
  obtain ⟨its, r1, p1, _⟩ := I.tuple (SqT.of ha)
  obtain ⟨its2, r2, p2, _⟩ := I.tuple (SqT.of hb)
  by_cases hv : its = []
  · obtain ⟨⟨cls, dd, data, sl⟩, ho, hc, n, hd⟩ := id p1
    obtain ⟨⟨cls2, dd2, data2, sl2⟩, ho2, hc2, n2, hd2⟩ := id p2
    simp only at hc hd hc2 hd2
    subst hc hd hc2 hd2
    exact concat_meets ⟨_, ho, rfl⟩ ⟨_, ho2, rfl⟩ noFill_tuple_add seq_tuple_add PySem.F.slot_tuple_add PySem.F.entry_tuple_add (PySem.F.args_tuple_add_2 _ _)
      (tuple_addW0 a b its.toArray its2.toArray n n2 dd dd2 sl sl2 (by simp [hv])) ⟨ho, ho2, ⟨.ref b, H, I, rfl, q b H (by rw [hb, r1.nil_iff.mp hv]; rfl) (Same.refl _)⟩⟩
  refine HT.cat_tup p1 p2 hv (fun z => ⟨.ref a, H, I, rfl, q a H (by rw [ha, r2.nil_iff.mp z, List.append_nil]) (Same.refl _)⟩) (fun z => ?_) (by rw [← r1.length, ← r2.length]; exact hz)
  have fr := I.hok.fresh (Nat.le_refl s.heap.objs.size)
  refine ⟨.ref s.heap.objs.size, _, I.laid (t' := s.toks) (o := .tup (xs ++ ys)) (fun b ob q => Heap.get?_push_of_some _ q) (Nat.le_refl _) ?_, rfl, q _ _ upd_same (same_new fr)⟩
  exact ⟨by rw [List.length_append]; exact hz, _, r1.append r2, IsTup.new _ _⟩
end
end L2
set_option Elab.async false
set_option linter.all false
set_option maxRecDepth 100000
set_option maxHeartbeats 4000000
namespace L2
open PySem PySem.Spec PyProof.Rows
theorem Room.units1 {k : Nat} {A : Around} (r : Room k A) : A.in1.units + 64 < cLine := by have := r.un; show A.units + 1 + 64 < _; omega
/-! ### xs[::-1] -/
section
variable {X : Cx} {K : PySem.W.Frag} {e st : Expr} {te tk : TE} {pos p2 : Pos}
end
end L2
set_option Elab.async false
set_option linter.all false
set_option maxRecDepth 100000
set_option maxHeartbeats 4000000
namespace L2
open PySem PySem.Spec PyProof.Rows
/-! ### data are one -/
section
variable {H : Hp}
mutual
theorem Dat.fn : ∀ (d e : PyData) {v : V}, Dat H v d → Dat H v e → d = e
  | .none, e, v, h, g => by cases e <;> simp only [Dat] at h g <;> first | rfl | (subst h; first | (obtain ⟨_, _, z, _⟩ := g; cases z; done) | (cases g; done))
  | .bool _, e, v, h, g => by cases e <;> simp only [Dat] at h g <;> first | (subst h; first | (injection g with g; rw [g]; done) | (obtain ⟨_, _, z, _⟩ := g; cases z; done) | (cases g; done))
  | .int _, e, v, h, g => by cases e <;> simp only [Dat] at h g <;> first | (subst h; first | (injection g with g; rw [g]; done) | (obtain ⟨_, _, z, _⟩ := g; cases z; done) | (cases g; done))
  | .str _, e, v, h, g => by cases e <;> simp only [Dat] at h g <;> first | (subst h; first | (injection g with g; rw [g]; done) | (obtain ⟨_, _, z, _⟩ := g; cases z; done) | (cases g; done))
  | .list ds, .list es, v, h, g => by
    simp only [Dat] at h g
    obtain ⟨a, vs, rfl, ha, da⟩ := h
    obtain ⟨b, ws, e, hb, db⟩ := g
    injection e with e
    subst e
    rw [ha] at hb
    injection hb with hb
    injection hb with hb
    subst hb
    rw [Dats.fn ds es da db]
  | .tuple ds, .tuple es, v, h, g => by
    simp only [Dat] at h g
    obtain ⟨a, vs, rfl, ha, da⟩ := h
    obtain ⟨b, ws, e, hb, db⟩ := g
    injection e with e
    subst e
    rw [ha] at hb
    injection hb with hb
    injection hb with hb
    subst hb
    rw [Dats.fn ds es da db]
  | .list ds, .tuple es, v, h, g => by
    simp only [Dat] at h g
    obtain ⟨a, vs, rfl, ha, da⟩ := h
    obtain ⟨b, ws, e, hb, db⟩ := g
    injection e with e
    subst e
    rw [ha] at hb
    injection hb with hb
    cases hb
  | .tuple ds, .list es, v, h, g => by
    simp only [Dat] at h g
    obtain ⟨a, vs, rfl, ha, da⟩ := h
    obtain ⟨b, ws, e, hb, db⟩ := g
    injection e with e
    subst e
    rw [ha] at hb
    injection hb with hb
    cases hb
  | .list ds, .none, v, h, g => by simp only [Dat] at h g; obtain ⟨a, vs, rfl, _⟩ := h; cases g
  | .list ds, .bool _, v, h, g => by simp only [Dat] at h g; obtain ⟨a, vs, rfl, _⟩ := h; cases g
  | .list ds, .int _, v, h, g => by simp only [Dat] at h g; obtain ⟨a, vs, rfl, _⟩ := h; cases g
  | .list ds, .str _, v, h, g => by simp only [Dat] at h g; obtain ⟨a, vs, rfl, _⟩ := h; cases g
  | .tuple ds, .none, v, h, g => by simp only [Dat] at h g; obtain ⟨a, vs, rfl, _⟩ := h; cases g
  | .tuple ds, .bool _, v, h, g => by simp only [Dat] at h g; obtain ⟨a, vs, rfl, _⟩ := h; cases g
  | .tuple ds, .int _, v, h, g => by simp only [Dat] at h g; obtain ⟨a, vs, rfl, _⟩ := h; cases g
  | .tuple ds, .str _, v, h, g => by simp only [Dat] at h g; obtain ⟨a, vs, rfl, _⟩ := h; cases g
  | .list ds, .dict _, v, h, g => by simp only [Dat] at g
  | .tuple ds, .dict _, v, h, g => by simp only [Dat] at g
  | .dict _, _, v, h, g => by simp only [Dat] at h
theorem Dats.fn : ∀ (ds es : List PyData) {vs : List V}, Dats H vs ds → Dats H vs es → ds = es
  | [], [], _, _, _ => rfl
  | d :: ds, e :: es, v :: vs, h, g => by
    simp only [Dats] at h g
    rw [Dat.fn d e h.1 g.1, Dats.fn ds es h.2 g.2]
  | [], _ :: _, [], _, g => by simp only [Dats] at g
  | [], _ :: _, _ :: _, h, _ => by simp only [Dats] at h
  | _ :: _, [], [], h, _ => by simp only [Dats] at h
  | _ :: _, [], _ :: _, _, g => by simp only [Dats] at g
  | _ :: _, _ :: _, [], h, _ => by simp only [Dats] at h
end
end
/-! ### xs.index(x), of tuples -/
section
variable {X : Cx}
end
end L2
set_option Elab.async false
set_option linter.all false
set_option maxRecDepth 100000
set_option maxHeartbeats 4000000
namespace L2
open PySem PySem.Spec PyProof.Rows
/-! ### f"..{n}" -/
section
variable {X : Cx} {K : PySem.W.Frag} {e e1 e2 l : Expr} {te t1 t2 tl : TE} {pos : Pos} {tg : Expr}
/-! ### walking a list or a tuple -/
end
section
variable {X : Cx}
end
theorem isi_int_tuple (K : PySem.W.Frag) : PySem.W.kitOne K (.type "int") (.type "tuple") = some false := by kernel_rfl
end L2
set_option Elab.async false
set_option linter.all false
set_option maxRecDepth 100000
set_option maxHeartbeats 4000000
namespace L2
open PySem PySem.Spec PyProof.Rows PySem.Builtin PySem.Builtin.Str
/-! ### texts taken apart -/
section
variable {X : Cx} {K : PySem.W.Frag}
/-- a name of the module that is a number or a text -/
def rSplit : V → List V → Hp → VK → Prop := fun x vs H Q => ∃ a y : Str, x = .str a ∧ vs = [.str y] ∧ (y.length == 0) = false ∧ a.length + 2 ≤ sizeLine ∧ ∀ q, H q = none → Q (.ref q) (upd H q (.lst ((Txt.split a y).map V.str)))
theorem vals_strs : ∀ l : List (Str × Tok), Vals ((l.map (·.1)).map V.str) (strValues l)
  | [] => .nil
  | p :: r => .cons ⟨p.2, rfl⟩ (vals_strs r)
theorem split_len {x y : Str} : (Txt.split x y).length ≤ x.length + 2 := by
  unfold Txt.split
  split
  · simp
  · split
    · simp
    · have e1 := StrLaws.occ_length_le x y 0 x.length (x.length + 1)
      rw [length_partsBetween]; omega
theorem mt_split : MtR X "str.split" rSplit := by
  intro pins s σ H x vs v us Q I rx rv h
  obtain ⟨a, y, rfl, rfl, hy, hz, q⟩ := h
  obtain ⟨t, rfl⟩ := rx
  obtain ⟨u, rfl, ru⟩ := rv.one
  obtain ⟨t2, rfl⟩ := ru
  have sl := split_len (x := a) (y := y)
  have fin : ∀ (l : List (Str × Tok)) (k : Nat), l.map (·.1) = Txt.split a y → EP X pins σ Q (.ref s.heap.objs.size) { s with heap := s.heap.push { cls := .type "list", data := .seq (strValues l).toArray }, toks := k } := by
    intro l k e
    refine ⟨.ref s.heap.objs.size, _, I.laid (t' := k) (o := .lst ((Txt.split a y).map V.str)) (fun b ob q => Heap.get?_push_of_some _ q) (Nat.le_refl _) ?_, rfl, q _ (I.hok.fresh (Nat.le_refl _))⟩
    exact ⟨by rw [List.length_map]; omega, _, 0, by rw [← e]; exact vals_strs l, Heap.get?_push_size _ rfl⟩
  have hn : (partsBetween a (occurrences a y 0 a.length (a.length + 1)) y.length).length ≤ sizeLine := by
    have e1 := StrLaws.occ_length_le a y 0 a.length (a.length + 1)
    rw [length_partsBetween]; omega
  cases h1 : (decide (a.length < y.length) || decide (strKind a < strKind y))
  · cases hf : (occurrences a y 0 a.length (a.length + 1)).isEmpty
    · refine call_meets PySem.F.slot_str_split (typeIs_str _ _ _) PySem.F.entry_str_split (PySem.F.args_str_split_2 _ _) (meets_str_split_sep a y t t2 h1 hy hf (by omega) hn) ?_
      show wants (EP X pins σ Q) X.xe _ { s with toks := _, heap := s.heap.push { cls := .type "list", data := .seq (strsFrom s.toks (partsBetween a (occurrences a y 0 a.length (a.length + 1)) y.length)).toArray } }
      rw [strsFrom_eq]
      exact fin (numbered s.toks _) _ ((numbered_texts _ _).trans ((if_neg (ne_true_of_eq_false h1)).trans (if_neg (ne_true_of_eq_false hf))).symm)
    · exact call_meets PySem.F.slot_str_split (typeIs_str _ _ _) PySem.F.entry_str_split (PySem.F.args_str_split_2 _ _) (meets_str_split_not_found a y t t2 h1 hy hf)
        (fin [(a, t)] s.toks ((if_neg (ne_true_of_eq_false h1)).trans (if_pos hf)).symm)
  · exact call_meets PySem.F.slot_str_split (typeIs_str _ _ _) PySem.F.entry_str_split (PySem.F.args_str_split_2 _ _) (meets_str_split_cannot_occur a y t t2 h1)
      (fin [(a, t)] s.toks (if_pos h1).symm)
def rPart : V → List V → Hp → VK → Prop := fun x vs H Q => ∃ a y : Str, x = .str a ∧ vs = [.str y] ∧ (y.length == 0) = false ∧ a.length ≤ sizeLine ∧ ∀ q, H q = none → Q (.ref q) (upd H q (.tup [.str (Txt.partition a y).1, .str (Txt.partition a y).2.1, .str (Txt.partition a y).2.2]))
theorem mt_part : MtR X "str.partition" rPart := by
  intro pins s σ H x vs v us Q I rx rv h
  obtain ⟨a, y, rfl, rfl, hy, hz, q⟩ := h
  obtain ⟨t, rfl⟩ := rx
  obtain ⟨u, rfl, ru⟩ := rv.one
  obtain ⟨t2, rfl⟩ := ru
  have fin : ∀ (ta tb tc : Tok) (k : Nat), EP X pins σ Q (.ref s.heap.objs.size) { s with heap := s.heap.push { cls := .type "tuple", data := .seq [.str (Txt.partition a y).1 ta, .str (Txt.partition a y).2.1 tb, .str (Txt.partition a y).2.2 tc].toArray }, toks := k } := by
    intro ta tb tc k
    refine ⟨.ref s.heap.objs.size, _, I.laid (t' := k) (o := .tup [.str (Txt.partition a y).1, .str (Txt.partition a y).2.1, .str (Txt.partition a y).2.2]) (fun b ob q => Heap.get?_push_of_some _ q) (Nat.le_refl _) ?_, rfl, q _ (I.hok.fresh (Nat.le_refl _))⟩
    exact ⟨by show 3 ≤ sizeLine; decide, _, .cons ⟨ta, rfl⟩ (.cons ⟨tb, rfl⟩ (.cons ⟨tc, rfl⟩ .nil)), IsTup.new _ _⟩
  refine call_meets PySem.F.slot_str_partition (typeIs_str _ _ _) PySem.F.entry_str_partition (PySem.F.args_str_partition_2 _ _) (meets_str_partition a y t t2 hy hz) ?_
  unfold Txt.partition at fin
  revert fin
  cases occurrences a y 0 a.length 1 with
  | nil => intro fin; exact fin _ _ _ _
  | cons i r => intro fin; exact fin _ _ _ _
/-! ### the signs of a text, one by one -/
def Its (x : Str) : It := ⟨fun i _ => i < x.cps.size, fun i H v H' => H' = H ∧ ∃ c, x.cps[i]? = some c ∧ v = .str ⟨#[c]⟩, fun i _ => x.cps.size ≤ i⟩
theorem turn_str {P : Program} {w : World} {K : PySem.W.Frag} {tg : Expr} (x : Str) (t : Tok) (it : Addr) : Turn P w K tg (Its x) [it] it (fun i h => i ≤ x.cps.size ∧ (h.IsStrIter it "str_ascii_iterator" x t i ∨ h.IsStrIter it "str_iterator" x t i)) where
  mem := by simp
  obj := fun i h st b hb => by
    have e : b = it := by simpa using hb
    subst e
    rcases st.2 with ⟨o, e, c, d⟩ | ⟨o, e, c, d⟩
    · exact ⟨o, e, fun v z => by rw [d] at z; cases z⟩
    · exact ⟨o, e, fun v z => by rw [d] at z; cases z⟩
  keep := fun i h h' st k => ⟨st.1, st.2.imp (fun ⟨o, e, r⟩ => ⟨o, k it (by simp) o e, r⟩) (fun ⟨o, e, r⟩ => ⟨o, k it (by simp) o e, r⟩)⟩
  item := by
    intro X hP hw hK hc i pins s σ H E I hf st hg
    subst hP hw hK
    have hi : i < x.cps.size := hg
    have hx : x.cps[i]? = some x.cps[i] := by simp [hi]
    obtain ⟨f0, f1, f2, f3, f4, f5⟩ := hf it (by simp)
    rcases st.2 with st | st
    · refine wpAny_pyNext_ascii_item st hx fun h' st' sb => ?_
      have I1 : Inv X pins σ H { s with heap := h', toks := s.toks + 1 } := I.turned (t' := s.toks + 1) (fun b o hb e => (sb.2 b hb).trans e) f0 f1 f3 f4 f5
      obtain ⟨o, e, c, d⟩ := id st'
      exact ⟨_, rfl, go_of (s := { s with heap := h', toks := s.toks + 1 }) e c d (by decide) ⟨.str ⟨#[x.cps[i]]⟩, H, I1, ⟨_, rfl⟩, ⟨rfl, _, hx, rfl⟩, ⟨hi, .inl st'⟩, fun b hb => (hf b hb).1⟩⟩
    · refine wpAny_pyNext_wide_item st hx fun h' st' sb => ?_
      have I1 : Inv X pins σ H { s with heap := h', toks := s.toks + 1 } := I.turned (t' := s.toks + 1) (fun b o hb e => (sb.2 b hb).trans e) f0 f1 f3 f4 f5
      obtain ⟨o, e, c, d⟩ := id st'
      exact ⟨_, rfl, go_of (s := { s with heap := h', toks := s.toks + 1 }) e c d (by decide) ⟨.str ⟨#[x.cps[i]]⟩, H, I1, ⟨_, rfl⟩, ⟨rfl, _, hx, rfl⟩, ⟨hi, .inr st'⟩, fun b hb => (hf b hb).1⟩⟩
  done := by
    intro X hP hw hK hc i pins s σ H E I hf st hg
    subst hP hw hK
    have hx : x.cps[i]? = none := by simpa using (show x.cps.size ≤ i from hg)
    obtain ⟨f0, f1, f2, f3, f4, f5⟩ := hf it (by simp)
    rcases st.2 with st | st
    · exact wpAny_pyNext_ascii_end (I.ok.hd hc) st hx fun h' eb => ⟨rfl, I.turned (t' := s.toks) (fun b o hb e => eb b o hb e) f0 f1 f3 f4 f5⟩
    · exact wpAny_pyNext_wide_end (I.ok.hd hc) st hx fun h' eb => ⟨rfl, I.turned (t' := s.toks) (fun b o hb e => eb b o hb e) f0 f1 f3 f4 f5⟩
  self := fun _ _ _ _ _ st h => st.2.elim (fun st => wpAny_pyIter_striter_ascii st h) (fun st => wpAny_pyIter_striter_wide st h)
def iStr (tl : TE) : TI := fun σ H R => tl σ H fun x H1 => ∃ a, x = .str a ∧ R (Its a) H1
theorem pi_str {tg l : Expr} {tl : TE} (hl : PE X l tl) : PI X tg l (iStr tl) := by
  intro pins s σ H R I h
  refine thn (hl pins s σ H _ I h) fun v s1 ⟨x, H1, I1, r1, q1⟩ => ?_
  obtain ⟨a, rfl, q⟩ := q1
  obtain ⟨t, rfl⟩ := r1
  have fin : ∀ o, (s1.heap.push o).IsStrIter s1.heap.objs.size "str_ascii_iterator" a t 0 ∨ (s1.heap.push o).IsStrIter s1.heap.objs.size "str_iterator" a t 0 → PIE X pins σ tg R (.ref s1.heap.objs.size) { s1 with heap := s1.heap.push o } := by
    intro o st
    refine ⟨s1.heap.objs.size, [s1.heap.objs.size], _, _, H1, rfl, I1.kept (t' := s1.toks) fun b o e => Heap.get?_push_of_some _ e, turn_str a t _, ⟨Nat.zero_le _, st⟩, fun b hb => ?_, q⟩
    have e : b = s1.heap.objs.size := by simpa using hb
    subst e
    exact I1.fpOk (Nat.le_refl _) (I1.hok.fresh (Nat.le_refl _))
  cases ha : a.cps.all (· < 128)
  · exact wpAny_pyIter_wide ha (fin _ (.inr ⟨_, Heap.get?_push_size _ rfl, rfl, rfl⟩))
  · exact wpAny_pyIter_ascii ha (fin _ (.inl ⟨_, Heap.get?_push_size _ rfl, rfl, rfl⟩))
end
section
variable {K : PySem.W.Frag} {D : Addr} {tc : TT} {te : TE} {Q : VK} {rest : St} {H1 : Hp}
theorem comp_strP {x : Str} {g : TG} {σ0 : St} (Pv : Nat → St → Hp → Prop) (h0 : Pv 0 σ0 (upd H1 D (.lst [])))
    (hs : ∀ i c σ H, x.cps[i]? = some c → Pv i σ H → g (.str ⟨#[c]⟩) σ H fun σ2 H2 => tc σ2 H2 fun b H3 =>
      if b = true then te σ2 H3 fun y H4 => ∃ acc, H4 D = some (.lst acc) ∧ acc.length < sizeLine ∧ Pv (i + 1) σ2 (upd H4 D (.lst (acc ++ [y]))) else Pv (i + 1) σ2 H3)
    (hd : ∀ σ H, Pv x.cps.size σ H → Q (.ref D) H) : CompW (Its x) g tc te Q D σ0 H1 := by
  refine ⟨fun i m σ H => m = x.cps.size - i ∧ i ≤ x.cps.size ∧ Pv i σ H, ⟨x.cps.size, by simp, Nat.zero_le _, h0⟩, ?_⟩
  rintro i m σ H ⟨rfl, hi, p⟩
  by_cases hlt : i < x.cps.size
  · refine .inr ⟨hlt, Pv (i + 1), fun σ' H' p' => ⟨x.cps.size - (i + 1), by omega, rfl, hlt, p'⟩, fun y H' e => ?_⟩
    obtain ⟨e, c, hc, rfl⟩ := e
    subst e
    exact hs i c σ _ hc p
  · have e : i = x.cps.size := by omega
    subst e
    exact .inl ⟨Nat.le_refl _, hd σ H p⟩
theorem comp_valS {x : Str} (f : Nat → Option V) (hD : H1 D = none) (hx : x.cps.size ≤ 100000)
    (hs : ∀ i c H (G : Hp → Prop) (F : VK), x.cps[i]? = some c → Same H1 H → (∀ H', Same H H' → f i = none → G H') → (∀ y H', Same H H' → f i = some y → F y H') → tc (some (.str ⟨#[c]⟩) :: rest) H fun b H3 => if b = true then te (some (.str ⟨#[c]⟩) :: rest) H3 F else G H3)
    (hd : ∀ H, Same H1 H → H D = some (.lst ((List.range x.cps.size).filterMap f)) → Q (.ref D) H) : CompW (Its x) (gName 0) tc te Q D (none :: rest) H1 := by
  refine comp_strP (fun i σ H => (∃ v, σ = v :: rest) ∧ Same H1 H ∧ H D = some (.lst ((List.range i).filterMap f))) ⟨⟨none, rfl⟩, same_new hD, upd_same⟩ ?_ (fun σ H ⟨_, sm, e⟩ => hd H sm e)
  rintro i c σ H hi ⟨⟨v, rfl⟩, sm, e⟩
  have hil : i < x.cps.size := (Array.getElem?_eq_some_iff.mp hi).1
  refine hs i c H _ _ hi sm (fun H3 s3 ef => ⟨⟨_, rfl⟩, sm.trans s3, by rw [s3 _ _ e, fm_succ, ef]; simp⟩) (fun y H4 s4 ef => ?_)
  refine ⟨_, s4 _ _ e, ?_, ⟨_, rfl⟩, (sm.trans s4).newly hD, ?_⟩
  · have := fm_len f i
    rw [sizeLine_eq]; omega
  · rw [upd_same, fm_succ, ef]; rfl
end
section
variable {X : Cx}
def rLenS : List V → Hp → VK → Prop := fun xs H Q => ∃ x : Str, xs = [.str x] ∧ x.length ≤ sizeLine ∧ Q (.int x.length) H
theorem call_lenS : CallR X (.builtin "len") rLenS := by
  intro pins s σ H xs us Q I r h
  obtain ⟨x, rfl, hz, q⟩ := h
  exact call_len pins s σ H _ us Q I r ⟨.str x, x.length, rfl, ⟨hz, rfl⟩, q⟩
def rIntT : List V → Hp → VK → Prop := fun xs H Q => ∃ (x : Str) (n : Int), xs = [.str x] ∧ PySem.intText? x = some n ∧ x.length ≤ 640 ∧ Q (.int n) H
theorem call_intT : CallR X (.type "int") rIntT := by
  intro pins s σ H xs us Q I r h
  obtain ⟨x, n, rfl, hn, hl, q⟩ := h
  obtain ⟨u, rfl, rx⟩ := vals1 r
  obtain ⟨t, rfl⟩ := rx
  exact PySem.W.KIN.call_text hn hl ⟨.int n, H, I.tok _, ⟨_, rfl⟩, q⟩
end
end L2
set_option Elab.async false
set_option linter.all false
set_option maxRecDepth 100000
set_option maxHeartbeats 4000000
namespace L2
open PySem PySem.Spec PyProof.Rows PySem.Builtin PySem.Builtin.Str
/-! ### a text put together of parts without the sign between, taken apart there again -/
def jn (c : Nat) : List (List Nat) → List Nat
  | [] => []
  | [x] => x
  | x :: y :: r => x ++ c :: jn c (y :: r)
theorem app_inj {c : Nat} : ∀ {a b : List Nat} {s t : List Nat}, c ∉ a → c ∉ b → a ++ c :: s = b ++ c :: t → a = b ∧ s = t
  | [], [], s, t, _, _, h => ⟨rfl, by simpa using h⟩
  | [], y :: b, s, t, _, hb, h => by
    have : c = y := by simpa using (List.cons.inj h).1
    exact absurd (by rw [this]; simp) hb
  | x :: a, [], s, t, ha, _, h => by
    have : x = c := by simpa using (List.cons.inj h).1
    exact absurd (by rw [this]; simp) ha
  | x :: a, y :: b, s, t, ha, hb, h => by
    obtain ⟨e, h⟩ := List.cons.inj h
    obtain ⟨e2, h2⟩ := app_inj (fun z => ha (by simp [z])) (fun z => hb (by simp [z])) h
    exact ⟨by rw [e, e2], h2⟩
theorem jn_mem {c : Nat} {x y : List Nat} {r : List (List Nat)} : c ∈ jn c (x :: y :: r) := by simp [jn]
theorem jn_inj {c : Nat} : ∀ {l m : List (List Nat)}, l ≠ [] → m ≠ [] → (∀ p ∈ l, c ∉ p) → (∀ p ∈ m, c ∉ p) → jn c l = jn c m → l = m
  | [], _, h, _, _, _, _ => absurd rfl h
  | _, [], _, h, _, _, _ => absurd rfl h
  | [x], [y], _, _, _, _, h => by simpa [jn] using h
  | [x], y :: z :: r, _, _, hx, _, h => by
    have h : x = jn c (y :: z :: r) := h
    exact absurd (h ▸ jn_mem) (hx x (by simp))
  | x :: z :: r, [y], _, _, _, hy, h => by
    have h : jn c (x :: z :: r) = y := h
    exact absurd (h ▸ jn_mem) (hy y (by simp))
  | x :: z :: r, x' :: z' :: r', _, _, hx, hy, h => by
    obtain ⟨e1, e2⟩ := app_inj (hx x (by simp)) (hy x' (by simp)) h
    have := jn_inj (l := z :: r) (m := z' :: r') (by simp) (by simp) (fun p hp => hx p (by simp [hp])) (fun p hp => hy p (by simp [hp])) e2
    rw [e1, this]
theorem join_jn (c : Nat) : ∀ l : List Str, (Str.join ⟨#[c]⟩ l).cps.toList = jn c (l.map fun p => p.cps.toList)
  | [] => rfl
  | [x] => rfl
  | x :: y :: r => by
    show (x ++ ⟨#[c]⟩ ++ Str.join ⟨#[c]⟩ (y :: r)).cps.toList = _
    rw [Str.cps_append, Str.cps_append]
    simp only [Array.toList_append, List.map_cons, jn]
    rw [join_jn c (y :: r)]
    simp
theorem str_of_list {a b : Str} (h : a.cps.toList = b.cps.toList) : a = b := by
  cases a; cases b
  simp only at h
  rw [Array.toList_inj.mp h]
theorem map_inj {l m : List Str} (h : (l.map fun p => p.cps.toList) = m.map fun p => p.cps.toList) : l = m := by
  induction l generalizing m with
  | nil => cases m with
    | nil => rfl
    | cons => cases h
  | cons x l ih => cases m with
    | nil => cases h
    | cons y m =>
      simp only [List.map_cons] at h
      obtain ⟨e, h⟩ := List.cons.inj h
      rw [str_of_list e, ih h]
theorem split_ne (x y : Str) : Txt.split x y ≠ [] := by
  unfold Txt.split
  split
  · simp
  · split
    · simp
    · intro e
      have := length_partsBetween x (occurrences x y 0 x.length (x.length + 1)) y.length
      rw [e] at this
      simp at this
/-- parts without the sign c, joined by it and split there -/
theorem split_of (c : Nat) {l : List Str} (hne : l ≠ []) (hf : ∀ p ∈ l, c ∉ p.cps.toList) : Txt.split (Txt.join ⟨#[c]⟩ l) ⟨#[c]⟩ = l := by
  have e : Txt.join ⟨#[c]⟩ l = Str.join ⟨#[c]⟩ l := StrLaws.glued_eq_join _ _
  rw [e]
  have h1 := StrLaws.join_split (Str.join ⟨#[c]⟩ l) ⟨#[c]⟩
  have h2 := StrLaws.split_free (Str.join ⟨#[c]⟩ l) c
  have h3 := congrArg (fun x : Str => x.cps.toList) h1
  simp only [join_jn] at h3
  refine map_inj (jn_inj (by simpa using split_ne _ _) (by simpa using hne) ?_ ?_ h3)
  · intro p hp
    obtain ⟨q, hq, rfl⟩ := List.mem_map.mp hp
    exact h2 q hq
  · intro p hp
    obtain ⟨q, hq, rfl⟩ := List.mem_map.mp hp
    exact hf q hq
/-! ### the texts of the numbers below 1000 -/
def numOk (x : Str) : Bool := decide (1 ≤ x.length) && decide (x.length ≤ 3) && x.cps.toList.all (fun c => decide (48 ≤ c) && decide (c ≤ 57)) && (decide (x.length ≤ 1) || !decide (x.cps[0]? = some 48))
theorem num_ok : ∀ n : Fin 1000, numOk (Str.ofString (toString (n.val : Int))) = true := by decide +kernel
theorem num_ok' {i : Int} (h0 : 0 ≤ i) (h1 : i < 1000) : numOk (Str.ofString (toString i)) = true := by
  have := num_ok ⟨i.toNat, by omega⟩
  simpa [Int.toNat_of_nonneg h0] using this
theorem numOk.sign {x : Str} (h : numOk x = true) {c : Nat} (hc : c ∈ x.cps.toList) : 48 ≤ c ∧ c ≤ 57 := by
  simp only [numOk, Bool.and_eq_true, List.all_eq_true, decide_eq_true_eq] at h
  exact h.1.2 c hc
theorem numOk.free {x : Str} (h : numOk x = true) {c : Nat} (hc : c < 48) : c ∉ x.cps.toList := fun z => by
  have := numOk.sign h z
  omega
theorem at_iff {x : Str} {c i : Nat} : StrLaws.At x ⟨#[c]⟩ x.length i ↔ x.cps.toList[i]? = some c := by
  unfold StrLaws.At
  rw [StrLaws.subAt_eq]
  have l1 : (⟨#[c]⟩ : Str).length = 1 := rfl
  have l2 : x.length = x.cps.toList.length := by simp [Str.length]
  rw [l1, l2]
  generalize x.cps.toList = l
  constructor
  · rintro ⟨h1, h2⟩
    have hi : i < l.length := by omega
    rw [List.drop_eq_getElem_cons hi] at h2
    rw [List.take_succ_cons, List.take_zero] at h2
    have h2 : l[i] = c := List.singleton_inj.mp (beq_iff_eq.mp h2)
    rw [List.getElem?_eq_getElem hi, h2]
  · intro h
    obtain ⟨hi, e⟩ := List.getElem?_eq_some_iff.mp h
    refine ⟨by omega, ?_⟩
    rw [List.drop_eq_getElem_cons hi]
    simp [e]
/-- a text parted at the first sign c -/
theorem part_of {c : Nat} {a b : Str} (ha : c ∉ a.cps.toList) : Txt.partition (a ++ ⟨#[c]⟩ ++ b) ⟨#[c]⟩ = (a, ⟨#[c]⟩, b) := by
  have el : (a ++ ⟨#[c]⟩ ++ b).cps.toList = a.cps.toList ++ c :: b.cps.toList := by
    rw [Str.cps_append, Str.cps_append]; simp
  have hl : a.length = a.cps.toList.length := by simp [Str.length]
  have hat : StrLaws.At (a ++ ⟨#[c]⟩ ++ b) ⟨#[c]⟩ (a ++ ⟨#[c]⟩ ++ b).length a.length := by
    rw [at_iff, el, hl]; simp
  have key : ∃ r, occurrences (a ++ ⟨#[c]⟩ ++ b) ⟨#[c]⟩ 0 (a ++ ⟨#[c]⟩ ++ b).length 1 = a.length :: r := by
    rcases StrLaws.occ_head (a ++ ⟨#[c]⟩ ++ b) ⟨#[c]⟩ 1 (Nat.le_refl 1) with ⟨_, hn⟩ | ⟨i, r, e, hi, hn⟩
    · exact absurd hat (hn _)
    · refine ⟨r, ?_⟩
      rw [e]
      congr 1
      rcases Nat.lt_trichotomy i a.length with h | h | h
      · exfalso
        rw [at_iff, el, List.getElem?_append_left (by omega)] at hi
        exact ha (List.mem_of_getElem? hi)
      · exact h
      · exact absurd hat (hn _ h)
  obtain ⟨r, e⟩ := key
  unfold Txt.partition
  rw [e]
  have lx : (a ++ ⟨#[c]⟩ ++ b).length = a.length + 1 + b.length := by rw [Str.length_append, Str.length_append]; rfl
  show (strSub (a ++ ⟨#[c]⟩ ++ b) 0 a.length, (⟨#[c]⟩ : Str), strSub (a ++ ⟨#[c]⟩ ++ b) (a.length + 1) (a ++ ⟨#[c]⟩ ++ b).length) = _
  refine Prod.ext (str_of_list ?_) (Prod.ext rfl (str_of_list ?_))
  · show (strSub (a ++ ⟨#[c]⟩ ++ b) 0 a.length).cps.toList = _
    rw [StrLaws.strSub_toList, el, List.drop_zero, Nat.sub_zero, hl, List.take_left]
  · show (strSub (a ++ ⟨#[c]⟩ ++ b) (a.length + 1) (a ++ ⟨#[c]⟩ ++ b).length).cps.toList = _
    rw [StrLaws.strSub_toList, el, lx, hl]
    rw [show a.cps.toList ++ c :: b.cps.toList = (a.cps.toList ++ [c]) ++ b.cps.toList by simp, List.drop_left' (by simp)]
    exact List.take_of_length_le (by simp [Str.length])
end L2
set_option Elab.async false
set_option linter.all false
set_option maxRecDepth 100000
set_option maxHeartbeats 4000000
namespace L2
open PySem PySem.Spec PyProof.Rows
/-! ### classes: methods and instances made -/
section
variable (P : Program) (w : World) (K : PySem.W.Frag) (mg : Str → Option Value) (base : Heap)
end
section
variable {P : Program} {w : World} {K : PySem.W.Frag} {mg : Str → Option Value} {base : Heap} {k : Nat} {C : Addr} {m x : Str} {ps : List Str} {sp : Sp} {dvs : List V}
end
section
variable {X : Cx} {k : Nat} {C : Addr} {x m : Str} {ps : List Str} {sp : Sp} {dvs : List V} {e o : Expr} {es : List Expr} {ta : TE} {t : TA} {p pos apos : Pos} {E : St → XK}
end
end L2
namespace L2
open PySem PySem.Spec PyProof.Rows PySem.Builtin PySem.Builtin.Str
/-! ### more of classes and texts -/
section
variable {X : Cx} {K : PySem.W.Frag} {o e value : Expr} {f : Str} {pos pos' tpos : Pos} {ta tv : TE}
end
/-! ### a def with defaults -/
section
variable {P : Program} {w : World} {K : PySem.W.Frag} {mg : Str → Option Value} {base : Heap}
end
/-! ### an instance made with the last parameter by its name -/
section
variable {X : Cx} {k : Nat} {C : Addr} {x kn : Str} {ps : List Str} {sp : Sp} {e ke : Expr} {es : List Expr} {te : TE} {t : TA} {p pos kpos : Pos} {E : St → XK}
end
end L2
set_option Elab.async false
set_option linter.all false
set_option maxRecDepth 100000
set_option maxHeartbeats 4000000
namespace L2
open PySem PySem.Spec PyProof.Rows
/-! ### a comprehension one of whose own names is taken along by another one within -/
section
variable {X : Cx} {pins : List (Addr × Obj)} {σ : St} {H : Hp} {s : Shared} {scope : Scope} {N own : List Str} {caps : List Nat} {fp : List Addr} {C : Nat} {xc : Str}
end

section
variable {M : Model} {A : Around} {E : Value → Shared → Prop} {s : Shared}
end
section
variable {X : Cx} {elt tg iter : Expr} {ifs : List Expr} {scope : Scope} {pos : Pos} {N own : List Str} {caps : List Nat} {wi : TI} {g : TG} {tc : TT} {te : TE} {xc : Str}
end
end L2
set_option Elab.async false
set_option linter.all false
set_option maxRecDepth 100000
set_option maxHeartbeats 4000000
namespace L2
open PySem
/-! ### tags: to whom an address belongs ([]: to nobody in particular; [0]: never written again; i :: r: to thing i) -/
end L2
set_option Elab.async false
set_option linter.all false
set_option maxRecDepth 100000
set_option maxHeartbeats 4000000
namespace Prf
open PySem L2
/-! ### programs -/
inductive Ex1 where
  | num (n : Int)
  | box (b : Nat)
  deriving DecidableEq
inductive Exx where
  | one (x : Ex1)
  | two (p : Bool) (x y : Ex1)
  deriving DecidableEq
inductive Rw where
  | load (b c : Nat)
  | store (c : Nat) (e : Exx)
  | swap (b c : Nat) (e : Exx)
  | lett (b : Nat) (e : Exx)
  | say (e : Exx)
  | go (k : Nat)
  | unl (q : Bool) (e f : Exx) (k : Nat)
  deriving DecidableEq
section
variable {H : Hp} {v : V}
end
/-! ### hands, going -/
def v1 (bs : List Int) : Ex1 → Int
  | .num n => n % 1000
  | .box b => (bs[b]?).getD 0
structure HandS where
  (rws : List Rw) (pos : Nat) (bs sy : List Int) (st : Str)
def touch : Rw → Bool
  | .load _ _ => true
  | .store _ _ => true
  | .swap _ _ _ => true
  | _ => false
/-- a hand that waits stands at a touch -/
def HOk (s : HandS) : Prop := s.st = "waits" → ∃ r, s.rws[s.pos]? = some r ∧ touch r = true
def new (rws : List Rw) : HandS := ⟨rws, 0, List.replicate 8 0, [], "waits"⟩
/-! ### a works -/
def cellR : Rw → Nat
  | .load _ c => c
  | .store c _ => c
  | .swap _ c _ => c
  | _ => 0
end Prf
namespace L2
open PySem Prf
end L2
set_option Elab.async false
set_option linter.all false
set_option maxRecDepth 100000
set_option maxHeartbeats 4000000
namespace L2
open PySem PySem.Spec PyProof.Rows
section
variable {X : Cx} {k : Nat} {C : Addr} {sp : Sp}
end
end L2
set_option Elab.async false
set_option linter.all false
set_option maxRecDepth 100000
set_option maxHeartbeats 4000000
namespace Prf
open PySem L2
/-! ### numbers stay in their bounds -/
def inR (x : Int) : Prop := 0 ≤ x ∧ x < 1000
def allR (l : List Int) : Prop := ∀ x ∈ l, inR x
/-! ### what is told of a works, as data -/
mutual
theorem eqv_self : ∀ d : PyData, d.canLay0 = true → PyData.eqv d d = true
  | .none, _ => rfl
  | .bool b, _ => by simp [PyData.eqv]
  | .int i, _ => by simp [PyData.eqv]
  | .str x, _ => by simp [PyData.eqv]
  | .list ds, h => by simp only [PyData.eqv]; exact eqv_selfs ds (by simpa [PyData.canLay0] using h)
  | .tuple ds, h => by simp only [PyData.eqv]; exact eqv_selfs ds (by simpa [PyData.canLay0] using h)
  | .dict _, h => by simp [PyData.canLay0] at h
theorem eqv_selfs : ∀ ds : List PyData, PyData.canLayAll0 ds = true → PyData.eqvAll ds ds = true
  | [], _ => rfl
  | d :: ds, h => by
    simp only [PyData.canLayAll0, Bool.and_eq_true] at h
    simp only [PyData.eqvAll, Bool.and_eq_true]
    exact ⟨eqv_self d h.1, eqv_selfs ds h.2⟩
end
/-! ### neighbours exchanged -/
def isLoad : Rw → Bool
  | .load _ _ => true
  | _ => false
def apart (r q : Rw) : Prop := cellR r ≠ cellR q ∨ (isLoad r = true ∧ isLoad q = true)
end Prf
set_option Elab.async false
set_option linter.all false
set_option maxRecDepth 100000
set_option maxHeartbeats 4000000
namespace L2
open PySem
/-! ### what is new at a heap -/
section
variable {K : PySem.W.Frag} {a D : Addr} {xs : List V} {te : TE} {Q : VK} {rest : St} {H1 : Hp}
end
end L2
set_option Elab.async false
set_option linter.all false
set_option maxRecDepth 100000
set_option maxHeartbeats 4000000
namespace Prf
open PySem L2
/-! ### rows of texts read: the model -/
def nmS (i : Int) : Str := Str.ofString (toString i)
theorem dig1 : ∀ a : Fin 10, (⟨#[48 + a.val]⟩ : Str) = nmS (a.val : Nat) := by decide +kernel
theorem dig2 : ∀ a b : Fin 10, a.val ≠ 0 → (⟨#[48 + a.val, 48 + b.val]⟩ : Str) = nmS ((10 * a.val + b.val : Nat) : Int) := by decide +kernel
theorem dig3 : ∀ a b c : Fin 10, a.val ≠ 0 → (⟨#[48 + a.val, 48 + b.val, 48 + c.val]⟩ : Str) = nmS ((100 * a.val + 10 * b.val + c.val : Nat) : Int) := by decide +kernel
theorem str_list (x : Str) : x = ⟨x.cps.toList.toArray⟩ := by cases x; simp
theorem dig_of {c : Nat} (h : 48 ≤ c ∧ c ≤ 57) : ∃ a : Fin 10, c = 48 + a.val := ⟨⟨c - 48, by omega⟩, by show c = 48 + (c - 48); omega⟩
theorem num_canon {x : Str} (h : numOk x = true) : ∃ n : Nat, n < 1000 ∧ x = nmS n := by
  have hs := fun c (hc : c ∈ x.cps.toList) => numOk.sign h hc
  simp only [numOk, Bool.and_eq_true, decide_eq_true_eq, Bool.or_eq_true, Bool.not_eq_true', decide_eq_false_iff_not] at h
  obtain ⟨⟨⟨l1, l3⟩, _⟩, nz⟩ := h
  have sz : x.length = x.cps.toList.length := by simp [Str.length]
  have e0 : x.cps[0]? = x.cps.toList[0]? := by simp
  rw [e0] at nz
  rw [sz] at l1 l3 nz
  have ex := str_list x
  generalize x.cps.toList = l at hs l1 l3 nz ex
  match l, l1, l3 with
  | [a], _, _ =>
    obtain ⟨a', rfl⟩ := dig_of (hs a (by simp))
    exact ⟨a'.val, by omega, by rw [ex]; exact dig1 a'⟩
  | [a, b], _, _ =>
    obtain ⟨a', rfl⟩ := dig_of (hs a (by simp))
    obtain ⟨b', rfl⟩ := dig_of (hs b (by simp))
    have : a'.val ≠ 0 := fun z => by rcases nz with q | q <;> simp [z] at q
    exact ⟨10 * a'.val + b'.val, by omega, by rw [ex]; exact dig2 a' b' this⟩
  | [a, b, c], _, _ =>
    obtain ⟨a', rfl⟩ := dig_of (hs a (by simp))
    obtain ⟨b', rfl⟩ := dig_of (hs b (by simp))
    obtain ⟨c', rfl⟩ := dig_of (hs c (by simp))
    have : a'.val ≠ 0 := fun z => by rcases nz with q | q <;> simp [z] at q
    exact ⟨100 * a'.val + 10 * b'.val + c'.val, by omega, by rw [ex]; exact dig3 a' b' c' this⟩
  | _ :: _ :: _ :: _ :: _, _, l3 => simp at l3
theorem nm_ok {n : Nat} (h : n < 1000) : numOk (nmS n) = true := num_ok' (by omega) (by omega)
theorem nm_reads {n : Nat} (h : n < 1000) : PySem.intText? (nmS n) = some (n : Int) := PySem.W.KIN.num_reads (by omega) (by omega)
def numT (x : Str) : Option Nat := if numOk x = true then some ((PySem.intText? x).getD 0).toNat else none
theorem numT_nm {n : Nat} (h : n < 1000) : numT (nmS n) = some n := by unfold numT; rw [if_pos (nm_ok h), nm_reads h]; rfl
theorem numT_some {x : Str} {n : Nat} (h : numT x = some n) : n < 1000 ∧ x = nmS n := by
  unfold numT at h
  split at h
  · rename_i hk
    obtain ⟨m, m1, rfl⟩ := num_canon hk
    rw [nm_reads m1] at h
    cases h
    exact ⟨m1, rfl⟩
  · cases h
theorem numT_none {x : Str} (h : numOk x = false) : numT x = none := by unfold numT; rw [h]; rfl
def boxT (x : Str) : Option Nat := match x.cps.toList with
  | [c] => if 97 ≤ c ∧ c ≤ 104 then some (c - 97) else none
  | _ => none
def x1P (x : Str) : Option Ex1 := match boxT x with
  | some b => some (.box b)
  | none => match numT x with
    | some n => some (.num n)
    | none => none
def numD : Option Nat → PyData
  | some n => .int n
  | none => .none
end Prf
set_option Elab.async false
set_option linter.all false
set_option maxRecDepth 100000
set_option maxHeartbeats 4000000
namespace L2
open PySem PySem.Spec PyProof.Rows
/-! ### xs.count(b), xs.index(b), of truths -/
section
variable {X : Cx}
end
end L2
set_option Elab.async false
set_option linter.all false
set_option maxRecDepth 100000
set_option maxHeartbeats 4000000
namespace L2
open PySem PySem.Spec PyProof.Rows
/-! ### a text so many times -/
def rRepS : R2 := fun x y H Q => ∃ (a : Str) (n : Nat), x = .str a ∧ y = .int (n : Nat) ∧ n ≤ 5000 ∧ a.length ≤ 1000 ∧ Q (.str (cat (List.replicate n a))) H
theorem fold_cps : ∀ (l : List (Array Nat)) (b : Array Nat), (l.foldl (· ++ ·) b).toList = b.toList ++ (l.map Array.toList).flatten
  | [], b => by simp
  | x :: l, b => by
    rw [List.foldl_cons, fold_cps l]
    simp
theorem cat_list : ∀ l : List Str, (cat l).cps.toList = (l.map fun s => s.cps.toList).flatten
  | [] => rfl
  | x :: l => by
    show (x ++ cat l).cps.toList = _
    rw [Str.cps_append, Array.toList_append, cat_list l, List.map_cons, List.flatten_cons]
theorem str_ext {a b : Str} (h : a.cps.toList = b.cps.toList) : a = b := by
  cases a; cases b
  simp only [Str.mk.injEq]
  exact Array.ext' h
theorem mul_cat (a : Str) (n : Nat) : Txt.mul a (n : Nat) = cat (List.replicate n a) := by
  refine str_ext ?_
  rw [cat_list, List.map_replicate]
  unfold Txt.mul
  by_cases h0 : n = 0
  · subst h0; rfl
  · rw [if_neg (by omega)]
    by_cases h1 : ((n : Int) == 1 || a.length == 0) = true
    · rw [if_pos h1]
      simp only [Bool.or_eq_true, beq_iff_eq] at h1
      rcases h1 with h1 | h1
      · have : n = 1 := by omega
        subst this
        simp
      · have e : a.cps.toList = [] := List.eq_nil_of_length_eq_zero (by simpa [Str.length] using h1)
        rw [e]
        simp
    · rw [if_neg h1]
      show ((List.replicate (n : Int).toNat a.cps).foldl (· ++ ·) #[]).toList = _
      rw [fold_cps, Int.toNat_natCast]
      simp
section
variable {X : Cx}
theorem op_repS : OpR X (binaryOp .Mult) rRepS := by
  intro pins s σ H x y v u Q I rx ry h
  obtain ⟨a, n, rfl, rfl, hn, ha, q⟩ := h
  obtain ⟨t, rfl⟩ := (show ∃ t, v = Value.str a t from rx)
  obtain ⟨t', rfl⟩ := (show ∃ t, u = Value.int (n : Nat) t from ry)
  refine SB.mul (n := (n : Nat)) ⟨?_, fun _ _ => ?_, fun _ _ => ?_⟩ fun t1 k => ⟨.str _, H, I.tok _, ⟨t1, by rw [mul_cat]⟩, q⟩
  · rw [decide_eq_false (by omega), decide_eq_false (by omega)]; rfl
  · rename_i h1 _
    have p : (a.length : Int) * (n : Int) ≤ 1000 * 5000 := Int.mul_le_mul (by omega) (by omega) (by omega) (by omega)
    have := (Int.le_ediv_iff_mul_le (a := (a.length : Int)) (b := (2 ^ 63 - 1 : Int)) (c := (n : Int)) (by omega)).mpr (by omega)
    omega
  · have p : a.length * n ≤ 1000 * 5000 := Nat.mul_le_mul ha hn
    show decide (_ > sizeLine) = false
    refine decide_eq_false ?_
    rw [sizeLine_eq, Int.toNat_natCast]
    omega
end
end L2
set_option Elab.async false
set_option linter.all false
set_option maxRecDepth 100000
set_option maxHeartbeats 4000000
namespace L2
open PySem PySem.Spec PyProof.Rows PySem.Builtin PySem.Builtin.Str
/-! ### texts cut, counted, found in lists -/
section
variable {X : Cx} {K : PySem.W.Frag}
/-- text[lo:hi] -/
def rSlS : V → Option Int → Option Int → Hp → VK → Prop := fun x lo hi H Q => ∃ z : Str, x = .str z ∧ z.length ≤ sizeLine ∧ Q (.str (Txt.slice z lo hi)) H
theorem sl_str : SlR X rSlS := by
  intro pins s σ H x v vl vu lo hi sl Q I rx hs pl pu h
  obtain ⟨z, rfl, hz, q⟩ := h
  obtain ⟨t, rfl⟩ := rx
  have fin : ∀ (t' : Tok) (k : Nat), EP X pins σ Q (.str (Txt.slice z lo hi) t') { s with toks := k } := fun t' k => ⟨.str _, H, I.tok _, ⟨_, rfl⟩, q⟩
  have zl := Nat.le_trans (Txt.slice_le z lo hi) hz
  refine ⟨"str", _, F.slot_str_getitem.lookup, typeIs_str _ _ _, ?_⟩
  cases pl with
  | none =>
    cases pu with
    | none => exact wpAny_getItem_str_slice (l := none) (u := none) (st := none) hs rfl (post_val_or_str ⟨zl, fin⟩)
    | int j uj => exact wpAny_getItem_str_slice (l := none) (u := some (j, uj)) (st := none) hs rfl (post_val_or_str ⟨zl, fin⟩)
  | int i ui =>
    cases pu with
    | none => exact wpAny_getItem_str_slice (l := some (i, ui)) (u := none) (st := none) hs rfl (post_val_or_str ⟨zl, fin⟩)
    | int j uj => exact wpAny_getItem_str_slice (l := some (i, ui)) (u := some (j, uj)) (st := none) hs rfl (post_val_or_str ⟨zl, fin⟩)
end
/-! ### what a cut is -/
end L2
namespace L2
open PySem PySem.Spec PyProof.Rows
section
variable {X : Cx} {k : Nat} {x : Str} {ps : List Str} {sp : Sp} {p pos : Pos}
/-- a def of the text called without arguments -/
theorem pe_fn0 (F : FnAt X.prog X.w X.K X.mg X.base k x ps sp) (hr : Room k X.A) (hg : Gl X x) (hd : (x == ("__debug__" : Str)) = false := by decide) : PE X (.Call (.Name x p) [] [] pos) (tCall sp [] E0 tNil) := by
  obtain ⟨f, fd, G, hm, hk, hb⟩ := F
  exact pe_call0 G hr hg hm hk hb .nil pass0 (hdb := hd)
end
end L2
namespace L2
open PySem PySem.Spec PyProof.Rows
section
variable {X : Cx}
/-! ### a display of many texts, in one step -/
def tVals (vs : List V) : TA := fun _ H Q => Q vs H
def cStrs : List Expr → List Str → Bool
  | [], [] => true
  | .Constant (.str x) _ _ :: es, y :: ys => (x == y) && cStrs es ys
  | _, _ => false
theorem pa_strs : ∀ {es : List Expr} (ss : List Str), cStrs es ss = true → PA X es (tVals (ss.map V.str))
  | [], [], _ => pa_nil
  | [], _ :: _, h => by simp [cStrs] at h
  | .Constant (.str x) j pos :: es, y :: ys, h => by
    simp only [cStrs, Bool.and_eq_true, beq_iff_eq] at h
    obtain ⟨rfl, h⟩ := h
    exact pa_cons (pe_str (x := x) (j := j) (pos := pos)) (pa_strs ys h)
  | e :: es, [], h => by unfold cStrs at h; split at h <;> simp_all
  | .Constant (.int _) _ _ :: _, _ :: _, h => by simp [cStrs] at h
  | e :: es, y :: ys, h => by
    unfold cStrs at h
    split at h
    · simp_all
    · rename_i h1 h2
      injection h1 with a b
      injection h2 with c d
      subst a b c d
      simp only [Bool.and_eq_true, beq_iff_eq] at h
      obtain ⟨rfl, h⟩ := h
      exact pa_cons pe_str (pa_strs _ h)
    · cases h
theorem pe_lstC {es : List Expr} {pos : Pos} (ss : List Str) (h : cStrs es ss = true) : PE X (.List es pos) (tLst (tVals (ss.map V.str))) := pe_lst (pa_strs ss h)
end
end L2
set_option Elab.async false
set_option linter.all false
set_option maxRecDepth 100000
set_option maxHeartbeats 4000000
namespace L2
open PySem PySem.Spec PyProof.Rows
/-! ### a comprehension whose element may raise -/
theorem note_env {e : Value} {env env' : Env} (h : env'.frame = env.frame) : noteFrame e env' = noteFrame e env := by
  unfold noteFrame PySem.frameOf
  rw [h]
section
variable {M : Model} {A : Around} {E : Value → Shared → Prop} {s : Shared} {base : Heap} {env : Env} {outer : List Env} {L e : Addr}
theorem Noted.refl {fr : List Addr} {lo : Addr → Prop} {h : Heap} : Noted fr e lo h h := ⟨fun _ _ q _ _ _ => q, fun b o q _ _ _ => ⟨o.slots, q⟩, fun b o q => ⟨o, q⟩⟩
/-- an exception is noted at a frame, wherever it flies -/
theorem xnoteA {cls : Value} {dx : Option Addr} {lo : Addr → Prop} {Q : Unit → Shared → Prop} {fl : Option Value} (hfr : A.frames = some (env :: outer)) (hl : s.heap.FunFrames base (env :: outer)) (hf : env.frame = some L)
    (x : XObj s.heap e cls dx lo fl) (hlo : ∀ T, s.heap.get? T = none → lo T)
    (h : ∀ h', Noted (frs (env :: outer)) e lo s.heap h' → XObj h' e cls dx lo (some (rawInt L)) → Q () { s with heap := h' }) : wpAny M A (noteFrame (.ref e) env) Q E s := by
  cases fl with
  | none => exact xnote (.inl rfl) hfr hl hf x hlo h
  | some f =>
    have x0 := id x
    obtain ⟨oe, vs, T, oT, ts, he, hc, hdx, hd, h1, hT, nT, hgT, hdT, h3⟩ := x
    unfold noteFrame
    simp only [hf]
    refine wpAny_bind (wpAny_field he hd h1 ?_)
    rw [if_pos (show (Value.ref T != Value.none) = true from by simp)]
    refine wpAny_bind (wpAny_field hgT hdT h3 ?_)
    by_cases hL : (f == rawInt L) = true
    · rw [if_pos hL]
      have : f = rawInt L := by simpa using hL
      exact wpAny_pure (h s.heap .refl (this ▸ x0))
    rw [if_neg hL]
    have hs3 : 3 < ts.size := (Array.getElem?_eq_some_iff.mp h3).1
    refine wpAny_bind (wpAny_setField hgT hdT hs3 ?_)
    have oth : ∀ b, b ≠ T → (s.heap.update T (Obj.mapFields (·.setIfInBounds 3 Value.none))).get? b = s.heap.get? b := fun b hb => Heap.get?_update_other _ _ (Ne.symm hb)
    obtain ⟨u1, u2, u3, u4⟩ := upd_fields hgT hdT 3 Value.none
    have n0 : Noted (frs (env :: outer)) e lo s.heap (s.heap.update T (Obj.mapFields (·.setIfInBounds 3 Value.none))) := by
      have nb : ∀ b, ¬ lo b → b ≠ T := fun b hb z => hb (by rw [z]; exact hT)
      refine ⟨fun b o q _ _ n3 => (oth b (nb b n3)).trans q, fun b o q _ _ n3 => ⟨o.slots, (oth b (nb b n3)).trans q⟩, fun b o q => ?_⟩
      by_cases hb : b = T
      · subst hb; exact ⟨_, u1⟩
      · exact ⟨o, (oth b hb).trans q⟩
    have ffs : (s.heap.update T (Obj.mapFields (·.setIfInBounds 3 Value.none))).FunFrames base (env :: outer) := hl.of_keeps fun b o q nf => by
      by_cases hb : b = T
      · subst hb; rw [hgT] at q; cases q; exact absurd hdT (nf ts)
      · exact ⟨o, (oth b hb).trans q, rfl⟩
    refine xentry (s := { s with heap := s.heap.update T (Obj.mapFields (·.setIfInBounds 3 Value.none)) }) hfr ffs hf ((oth e (Ne.symm nT)).trans he) hd (Array.getElem?_eq_some_iff.mp h1).1 hc hdx (fun T' z => ?_) fun h' n1 x1 => h h' (n0.trans n1) x1
    by_cases hb : T' = T
    · rw [hb]; exact hT
    · exact hlo T' ((oth T' hb).symm.trans z)
/-- its flight is set -/
theorem xfly {cls : Value} {dx : Option Addr} {lo : Addr → Prop} {Q : Unit → Shared → Prop} {fr : List Addr} {f : Value} {fo : Option Addr} (x : XObj s.heap e cls dx lo (some f)) 
    (h : ∀ h' g, Noted fr e lo s.heap h' → XObj h' e cls dx lo (some g) → Q () { s with heap := h' }) : wpAny M A (setFlight (.ref e) fo) Q E s := by
  obtain ⟨oe, vs, T, oT, ts, he, hc, hdx, hd, h1, hT, nT, hgT, hdT, h3⟩ := x
  have hs3 : 3 < ts.size := (Array.getElem?_eq_some_iff.mp h3).1
  unfold setFlight
  refine wpAny_bind (wpAny_field he hd h1 ?_)
  rw [if_pos (show (Value.ref T != Value.none) = true from by simp)]
  generalize (fo.elim Value.none fun f => rawInt f) = g
  have oth : ∀ b, b ≠ T → (s.heap.update T (Obj.mapFields (·.setIfInBounds 3 g))).get? b = s.heap.get? b := fun b hb => Heap.get?_update_other _ _ (Ne.symm hb)
  obtain ⟨u1, u2, u3, u4⟩ := upd_fields hgT hdT 3 g
  have nb : ∀ b, ¬ lo b → b ≠ T := fun b hb z => hb (by rw [z]; exact hT)
  refine wpAny_setField hgT hdT hs3 (h _ g ⟨fun b o q _ _ n3 => (oth b (nb b n3)).trans q, fun b o q _ _ n3 => ⟨o.slots, (oth b (nb b n3)).trans q⟩, fun b o q => ?_⟩ ?_)
  · by_cases hb : b = T
    · subst hb; exact ⟨_, u1⟩
    · exact ⟨o, (oth b hb).trans q⟩
  · exact ⟨oe, vs, T, _, _, (oth e (Ne.symm nT)).trans he, hc, hdx, hd, h1, hT, nT, u1, u2, by simp [hs3]⟩
end
section
variable {X : Cx} {pins : List (Addr × Obj)} {σ : St} {H : Hp} {s : Shared} {e : Addr}
theorem Inv.xfpE (I : Inv X pins σ H s) (hx : ∀ b ∈ X.ex, ∃ o, (b, o) ∈ X.pn) {b : Addr} (hb : s.heap.get? b = none) : XFp X pins H b := by
  have nx : b ∉ X.ex := fun z => by
    obtain ⟨o, ho⟩ := hx b z
    obtain ⟨r, _⟩ := I.pin (b, o) (List.mem_append_left _ ho)
    rw [hb] at r; cases r
  refine ⟨?_, fun z => ?_, fun z => ?_, ?_, fun x c q z => ?_, fun p hp z => ?_⟩
  · cases q : H b with
    | none => rfl
    | some o =>
      obtain ⟨ob, r⟩ := (I.hok b o q).there
      rw [hb] at r; cases r
  · obtain ⟨m, ⟨o, _, _, r, _⟩, _⟩ := I.loc
    rw [← z, hb] at r; cases r
  · obtain ⟨_, o, r, _⟩ := I.funs.mem z
    rw [hb] at r; cases r
  · cases q : X.s₀.heap.get? b with
    | none => rfl
    | some o =>
      obtain ⟨o', r⟩ := I.base.there b o q nx
      rw [hb] at r; cases r
  · obtain ⟨v, o, r, _⟩ := I.cell x c q
    rw [z, hb] at r; cases r
  · obtain ⟨r, _⟩ := I.pin p hp
    rw [z, hb] at r; cases r
/-- exceptions that fulfil E may come up in this body, wherever they fly -/
def RzA (X : Cx) (E : XK) : Prop := ∀ (pins : List (Addr × Obj)) (σ : St) (H : Hp) (s : Shared) (e : Addr) (cls : Value) (dx : Option Addr) (fl : Option Value), Inv X pins σ H s → XFp X pins H e →
  XObj s.heap e cls dx (XFp X pins H) fl → E cls dx H → X.xe (.ref e) s
theorem RzA.rz {E : XK} (R : RzA X E) : Rz X (fun _ => E) := fun pins σ H s e cls dx fl _ I f x q => R pins σ H s e cls dx fl I f x q
theorem passesA {E : XK} (hx : ∀ b ∈ X.ex, ∃ o, (b, o) ∈ X.pn) (R : RzA X E) {s' : Shared} {ev : Value} (I : Inv X pins σ H s) (c : CX1 X.prog X.w X.stack H s E ev s') : X.xe ev s' := by
  obtain ⟨e, cls, dx, H', rfl, ho, hg, u, hok, ne, he, x, q⟩ := c
  have I' : Inv X pins σ H' s' := I.call' (ch := []) ho u hok hg (fun b hb => by cases hb)
  have fp : ∀ T, s.heap.get? T = none → H' T = none → XFp X pins H' T := fun T h1 h2 => by
    obtain ⟨_, a2, a3, a4, a5, a6⟩ := I.xfpE hx h1
    exact ⟨h2, a2, a3, a4, a5, a6⟩
  exact R pins σ H' s' e cls dx _ I' (fp e ne he) (x.imp fun T _ z => fp T z.1 z.2) q
/-- .. leave a def's body -/
theorem rz_leaveA {P : Program} {w : World} {K : PySem.W.Frag} {mg : Str → Option Value} {base : Heap} {N : List Str} {qual : Str} {scope : Scope} {f : Addr} {cd : Value} {A : Around} {outer : List Env} {s : Shared} {H : Hp} {E : XK} :
    RzA (cxOf (CX1 P w) P w K mg base N qual scope f cd A outer s H E) E := by
  intro pins σ H1 s1 e cls dx fl I fe x q
  show wpAny (model P w) _ (leaving _ (.ref e)) _ _ s1
  unfold leaving
  have lo1 : ∀ b, (b = e ∨ (XFp (cxOf (CX1 P w) P w K mg base N qual scope f cd A outer s H E) pins H1 b ∨ s1.heap.get? b = none)) → XFp (cxOf (CX1 P w) P w K mg base N qual scope f cd A outer s H E) pins H1 b ∨ s1.heap.get? b = none := fun b z => z.elim (fun z => .inl (by rw [z]; exact fe)) fun z => z
  have stk : (cxOf (CX1 P w) P w K mg base N qual scope f cd A outer s H E).A.frames = some ((cxOf (CX1 P w) P w K mg base N qual scope f cd A outer s H E).env :: outer) := I.ok.frames
  refine wpAny_bind (xnoteA (base := base) (lo := fun T => XFp (cxOf (CX1 P w) P w K mg base N qual scope f cd A outer s H E) pins H1 T ∨ s1.heap.get? T = none) stk I.stack rfl (x.imp fun T _ z => .inl z) (fun T z => .inr z) fun h1 n1 x1 => ?_)
  refine xland (fr := frs ((cxOf (CX1 P w) P w K mg base N qual scope f cd A outer s H E).env :: outer)) x1 fun h2 n2 x2 => ?_
  have I2 : Inv (cxOf (CX1 P w) P w K mg base N qual scope f cd A outer s H E) pins σ H1 { s1 with heap := h2 } := I.noted (n1.trans n2) lo1
  refine ⟨e, cls, dx, H1, rfl, I2.os, I2.bare, I2.base, I2.hok, fe.2.2.2.1, fe.1, x2.imp fun T _ z => ?_, q⟩
  rcases z with z | z
  · exact ⟨z.2.2.2.1, z.1⟩
  · have y := I.xfp rfl z
    exact ⟨y.2.2.2.1, y.1⟩
end
section
variable {P : Program} {w : World} {K : PySem.W.Frag} {mg : Str → Option Value} {base : Heap}
/-- a def whose exceptions leave it, also out of a comprehension -/
theorem Fun.okA {x qual : Str} {st : Stmt} {f : Addr} {fd : FuncData} {N ps : List Str} {k : Nat} {sp : Sp} (F : Fun K x qual st f fd) (S : FnScope N ps (defScope st)) (len : ∀ vs H Q E, sp vs H Q E → vs.length = ps.length)
    (hbody : ∀ (cdv : Value) (A : Around) (outer : List Env) (s : Shared) (H : Hp) (vs : List V) (Q : VK) (E : XK), Room k (A.deeper (envOfC qual (defScope st) s.heap.objs.size f cdv)) → sp vs H Q E →
      RzA (cxOf (CX1 P w) P w K mg base N qual (defScope st) f cdv A outer s H E) E →
      ∃ t, PSs (cxOf (CX1 P w) P w K mg base N qual (defScope st) f cdv A outer s H E) (defBody st) t ∧ t { nx := fun _ H' => Q .non H', rt := Q } (start N vs) H) : FnOk P w K mg base (CX1 P w) (k + 1) f fd ps sp := by
  obtain ⟨oc, od, kV, doc, pm, an, cdv, ct, osl, rfl, lk, hcd⟩ := F.ex
  exact fn_of lk hcd S len fun A outer s H vs Q E hr hsp => hbody cdv A outer s H vs Q E hr hsp rz_leaveA
end
/-- the context of a block's element: pins pn, wish xe -/
def cxElt (X : Cx) (scope : Scope) (C : Addr) (N : List Str) (s : Shared) (H : Hp) (fp : List Addr) (pn : List (Addr × Obj)) (xe : Value → Shared → Prop) : Cx := cxTry (cxComp X scope C N s H fp) pn xe
section
variable {prog : Program} {w : World} {A : Around} {R : Result → Shared → Prop} {s : Shared}
theorem compLoop_anyX {elt target iter : Expr} {ifs : List Expr} {scope : Scope} {pos : Pos} {it acc : Value} {env : Env} (I : Nat → Shared → Prop)
    (turn : ∀ n s, I n s → wpAny (model prog w) A (pyNext it) (fun r s1 => match r with
      | none => R (.ok .next) s1
      | some v => wpAny (model prog w) A (letOwnedTupleGo target it v) (fun _ s1' => wpAny (model prog w) A (assign target env v) (fun _ s2 =>
          wpAny (model prog w) A (forIn ifs true fun c r => if r = true then do let ok ← isTrue c env (eval c env); pure (ForInStep.yield ok) else pure (ForInStep.yield r)) (fun ok s3 =>
            if ok = true then wpAny (model prog w) A (eval elt env) (fun x s4 =>
              wpAny (model prog w) A (call (.builtin "list.append") [acc, x]) (fun _ s5 => ∃ m, m < n ∧ I m s5) (fun _ _ => False) s4) (notedBy (model prog w) A env fun x s' => R (.error x) s') s3
            else ∃ m, m < n ∧ I m s3) (fun _ _ => False) s2) (fun _ _ => False) s1') (fun _ _ => False) s1) (fun _ _ => False) s)
    (n : Nat) (h : I n s) :
    codeAny (model prog w) A (.compLoop (.ListComp elt [⟨target, iter, ifs, 0⟩] scope pos) 0 it acc env) R s := by
  refine codeAny_loop rfl I (fun n s hI => ?_) n h
  show wpAny _ A ((compTurn (.ListComp elt [⟨target, iter, ifs, 0⟩] scope pos) 0 it acc env).onRaise (fun x => do noteFrame x env; theTreesLotGoes x)) _ _ s
  refine wpAny_noted ?_
  rw [compTurn_list]
  refine wpAny_bind (wpAny_standAt (wpAny_bind (wpAny_mono (turn n s hI) (fun r s1 h1 => ?_) fun _ _ h' => h'.elim)))
  cases r with
  | none => exact wpAny_pure h1
  | some v =>
    refine wpAny_bind (wpAny_mono h1 (fun _ s1' h1' => ?_) fun _ _ h' => h'.elim)
    refine wpAny_bind (wpAny_mono h1' (fun _ s2 h2 => wpAny_bind (wpAny_mono h2 (fun ok s3 h3 => ?_) fun _ _ h' => h'.elim)) fun _ _ h' => h'.elim)
    cases ok with
    | false => exact wpAny_pure ⟨rfl, h3⟩
    | true =>
      exact wpAny_bind (wpAny_bind (wpAny_mono h3 (fun x s4 h4 => wpAny_bind (wpAny_mono h4 (fun _ s5 h5 => wpAny_pure (wpAny_pure ⟨rfl, h5⟩)) fun _ _ h' => h'.elim)) fun _ _ h' => h'))
end
end L2
set_option Elab.async false
set_option linter.all false
set_option maxRecDepth 100000
set_option maxHeartbeats 4000000
namespace L2
open PySem PySem.Spec PyProof.Rows
section
variable {X : Cx} {pins : List (Addr × Obj)} {σ : St} {H : Hp} {s : Shared} {scope : Scope} {N own : List Str} {caps : List Nat} {fp : List Addr} {C : Nat}
theorem XObj.but {h h' : Heap} {e : Addr} {cls : Value} {dx : Option Addr} {lo : Addr → Prop} {f : Option Value} (x : XObj h e cls dx lo f) (hs : Heap.SameBut C h h') (he : e ≠ C) (hl : ∀ T, lo T → T ≠ C) : XObj h' e cls dx lo f := by
  cases f with
  | none => obtain ⟨oe, vs, q, r⟩ := x; exact ⟨oe, vs, (hs.2 e he).trans q, r⟩
  | some f =>
    obtain ⟨oe, vs, T, oT, ts, q, hc, hdx, hd, h1, hT, nT, hgT, r⟩ := x
    exact ⟨oe, vs, T, oT, ts, (hs.2 e he).trans q, hc, hdx, hd, h1, hT, nT, (hs.2 T (hl T hT)).trans hgT, r⟩
/-- an exception comes up in the block -/
theorem comp_error {pn : List (Addr × Obj)} {E : XK} {use : Option (Value → Sem Unit)} {Qv : Value → Shared → Prop} {D : Addr} (I : Inv X pins σ H s) (hx : X.ex = []) (hstk : X.stack = X.env :: X.outer ∧ X.env.frame = some X.env.locals) (R : RzA X E) (hfp : ∀ b ∈ fp, FpOk X pins H b) (hC : s.heap.objs.size ≤ C)
    (hp : ∀ b ∈ fp, ∃ o, (b, o) ∈ pn) :
    RzA (cxElt X scope C N s H fp pn (notedBy (model X.prog X.w) X.A (cxComp X scope C N s H fp).env fun x s' => compPost (model X.prog X.w) X.A X.xe use Qv (.ref D) C (.error x) s')) E := by
  intro pins' σ' H' s' e cls dx fl J fe x q
  have J0 := J
  generalize hX' : cxElt X scope C N s H fp pn (notedBy (model X.prog X.w) X.A (cxComp X scope C N s H fp).env fun x s' => compPost (model X.prog X.w) X.A X.xe use Qv (.ref D) C (.error x) s') = X' at J fe x
  have hex : X'.ex = fp := by rw [← hX']; rfl
  have hpn : X'.pn = [] ++ pn := by rw [← hX']; rfl
  have hC' : X'.env.locals = C := by rw [← hX']; rfl
  have hst' : X'.stack = X.stack := by rw [← hX']; rfl
  have hou' : X'.outer = X.stack := by rw [← hX']; rfl
  have hbs' : X'.base = X.base := by rw [← hX']; rfl
  have hs0 : X'.s₀ = s := by rw [← hX']; rfl
  have hx' : ∀ b ∈ X'.ex, ∃ o, (b, o) ∈ X'.pn := fun b hb => by rw [hex] at hb; rw [hpn]; exact hp b hb
  have xeq : X'.xe = notedBy (model X.prog X.w) X.A (cxComp X scope C N s H fp).env fun x s' => compPost (model X.prog X.w) X.A X.xe use Qv (.ref D) C (.error x) s' := by rw [← hX']; rfl
  rw [xeq]
  show wpAny (model X.prog X.w) X.A (noteFrame (.ref e) (cxComp X scope C N s H fp).env) _ _ s'
  rw [note_env (env := X.env) (e := .ref e) (show (cxComp X scope C N s H fp).env.frame = X.env.frame from rfl)]
  have ff : s'.heap.FunFrames X.base (X.env :: X.outer) := by
    have := J.funs
    rw [hou', hbs', hstk.1] at this
    exact this
  have fr1 : X.A.frames = some (X.env :: X.outer) := by rw [I.ok.frames, hstk.1]
  refine xnoteA (base := X.base) (lo := XFp X' pins' H') fr1 ff hstk.2 x (fun T z => J.xfpE hx' z) fun h1 n1 x1 => ?_
  have J1 : Inv X' pins' σ' H' { s' with heap := h1 } := J.noted (by rw [hst', hstk.1]; exact n1) fun b z => .inl (z.elim (fun z => by rw [z]; exact fe) fun z => z)
  have nCs : ∀ T, XFp X' pins' H' T → T ≠ C := fun T z => by have := z.2.1; rw [hC'] at this; exact this
  obtain ⟨m, hm, _⟩ := J1.loc
  rw [hC'] at hm
  refine ⟨m, hm, fun h' hs' cenv hcl => ?_⟩
  have x2 := x1.but hs' (nCs e fe) nCs
  have x20 := x2
  obtain ⟨oe, vs, T, oT, ts, he, _, _, hd, h1', _⟩ := x2
  have toX : ∀ T, XFp X' pins' H' T → XFp X pins H' T := fun T z => by
    obtain ⟨a1, a2, a3, a4, a5, a6⟩ := z
    rw [hs0] at a4
    obtain ⟨b1, b2, b3, b4, b5, b6⟩ := I.xfp hx a4
    exact ⟨a1, b2, b3, b4, b5, b6⟩
  have J2 : Inv (cxComp X scope C N s H fp) (pn ++ pins') σ' H' { s' with heap := h1 } := by
    rw [← hX'] at J1
    exact ⟨⟨J1.ok.mod, J1.ok.kind, J1.ok.glob, J1.ok.blt, J1.ok.above, J1.ok.inj, J1.ok.has, J1.ok.cab, J1.ok.hd, J1.ok.frames, J1.ok.stk, J1.ok.exf, J1.ok.bs, J1.ok.bsz, J1.ok.noex, J1.ok.exfs, J1.ok.funs, J1.ok.frf⟩, J1.os, J1.bare, J1.base, J1.loc, J1.cell, J1.free, J1.freeC,
      fun p hp => J1.pin p (by simpa [cxElt, cxTry, cxComp] using hp), J1.hok, J1.len⟩
  have K0 : Inv X pins σ H' { s' with heap := h' } := I.uncomp (s' := { s' with heap := h1 }) hfp hC J2 hs'
  unfold PySem.passOn
  refine wpAny_bind (wpAny_field he hd h1' ?_)
  rw [if_neg (show ¬ ((Value.ref T == Value.none) = true) from by simp)]
  refine wpAny_bind (xfly (fr := frs X.stack) x20 fun h2 g n2 x3 => ?_)
  have K1 : Inv X pins σ H' { s' with heap := h2 } := K0.noted n2 fun b z => .inl (z.elim (fun z => by rw [z]; exact toX e fe) fun z => toX b z)
  exact wpAny_throw (R pins σ H' _ e cls dx (some g) K1 (toX e fe) (x3.imp fun T _ z => toX T z) q)
end
end L2
set_option Elab.async false
set_option linter.all false
set_option maxRecDepth 100000
set_option maxHeartbeats 4000000
namespace L2
open PySem PySem.Spec PyProof.Rows
section
variable {X : Cx} {elt tg iter : Expr} {ifs : List Expr} {scope : Scope} {pos : Pos} {N own : List Str} {caps : List Nat} {wi : TI} {g : TG} {tc : TT} {te : TE} {E : XK}
/-- the block run: from the iterator to the list, or to an exception -/
theorem comp_runX {use : Option (Value → Sem Unit)} {Qv : Value → Shared → Prop} {pins : List (Addr × Obj)} {σ : St} {H : Hp} {s : Shared} {Q : VK} (hc : X.calm = true) (hx : X.ex = []) (hstk : X.stack = X.env :: X.outer ∧ X.env.frame = some X.env.locals) (R : RzA X E) (S : CompScope N own caps X.N X.env.scope scope)
    (hg : ∀ C s H fp, PG (cxComp X scope C N s H fp) tg g) (hcs : ∀ C s H fp, PTs (cxComp X scope C N s H fp) ifs tc) (he : ∀ C s H fp pn xe, (∀ b ∈ (cxElt X scope C N s H fp pn xe).ex, ∃ o, (b, o) ∈ (cxElt X scope C N s H fp pn xe).pn) → RzA (cxElt X scope C N s H fp pn xe) E → PE (cxElt X scope C N s H fp pn xe) elt te)
    (hi : PI X tg iter wi) (hs : ∀ x, foldedSetIterable iter X.env x = pure x)
    (I : Inv X pins σ H s) (h : tComp own caps wi g tc te σ H Q)
    (fin : ∀ (D C : Addr) (H' : Hp) (s' : Shared), (∃ m, s'.heap.Ns C m) → Inv X pins σ H' s' → (∀ h', Heap.SameBut C s'.heap h' → Inv X pins σ H' { s' with heap := h' }) → FpOk X pins H' C → Q (.ref D) H' →
      compPost (model X.prog X.w) X.A X.xe use Qv (.ref D) C (.ok .next) s') :
    wpAny (model X.prog X.w) X.A (comprehension (.ListComp elt [⟨tg, iter, ifs, 0⟩] scope pos) scope X.env (firstIterPos [⟨tg, iter, ifs, 0⟩] pos) (newList []) false (eval iter X.env) use) Qv X.xe s := by
  refine wpAny_comprehension_free (use := use) rfl hs (closure_eq (S.csome I.ok)) S.kind S.names (thn (hi pins s σ H _ I h) fun xv s1 h1 => thn h1 fun itv s2 h2 => ?_)
  obtain ⟨it, fp, tn, J, H2, e, I2, T, st2, f2, q2⟩ := h2
  subst e
  refine wpAny_newList ?_
  refine wpAny_newFunctionEnv S.nocell (by intro y hy; simp at hy) (fun h1 hns1 hsb1 => ?_) S.kind
  dsimp only at hns1 hsb1 ⊢
  have hD : H2 s2.heap.objs.size = none := I2.hok.fresh (Nat.le_refl _)
  have hsz : (s2.heap.push { cls := .type "list", data := .seq ([] : List Value).toArray }).objs.size = s2.heap.objs.size + 1 := Heap.size_push ..
  have old : ∀ b o, s2.heap.get? b = some o → h1.get? b = some o := fun b o e => by
    refine hsb1.extBut b o (Nat.ne_of_lt (by have := natlt (Heap.lt_size e); rw [hsz]; omega)) (Heap.get?_push_of_some _ (Heap.get?_push_of_some _ e))
  have hl : h1.get? s2.heap.objs.size = some { cls := .type "list", data := .seq #[] } :=
    hsb1.extBut _ _ (Nat.ne_of_lt (by rw [hsz]; omega)) (Heap.get?_push_of_some _ (Heap.get?_push_size _ rfl))
  have hfo : ∀ b ∈ fp, ∃ o, s2.heap.get? b = some o := fun b hb => let ⟨o, e, _⟩ := T.obj _ _ st2 b hb; ⟨o, e⟩
  have I4 := Inv.comp (C := (s2.heap.push { cls := .type "list", data := .seq ([] : List Value).toArray }).objs.size) (t := s2.toks + ([] : List (Str × Value)).length) I2 S f2 hfo rfl hsz old hns1 hl
  obtain ⟨W, ⟨m0, w0⟩, turn⟩ := q2 _ hD
  generalize hCe : (s2.heap.push { cls := .type "list", data := .seq ([] : List Value).toArray }).objs.size = C at *
  generalize hDe : s2.heap.objs.size = D at *
  have hDC : D ≠ C := by omega
  -- the loop
  have loop : ∀ s3 : Shared, s3 = { s2 with heap := h1, toks := s2.toks + ([] : List (Str × Value)).length } →
      codeAny (model X.prog X.w) X.A (.compLoop (.ListComp elt [⟨tg, iter, ifs, 0⟩] scope pos) 0 (.ref it) (.ref D) (cxComp X scope C N s2 H2 fp).env) (compPost (model X.prog X.w) X.A X.xe use Qv (.ref D) C) s3 := by
    rintro s3 rfl
    have frz : ∀ b ∈ fp, (upd H2 D (.lst [])) b = none := fun b hb => by
      obtain ⟨o, e⟩ := hfo b hb
      rw [upd_ne (Nat.ne_of_lt (by have := natlt (Heap.lt_size e); omega))]
      exact (f2 b hb).1
    have stat : ∀ {H' : Hp}, (∀ b ∈ fp, H' b = none) → ∀ b ∈ fp, FpOk (cxComp X scope C N s2 H2 fp) [] H' b := fun hn b hb => by
      obtain ⟨o, e⟩ := hfo b hb
      have hlt := natlt (Heap.lt_size e)
      refine ⟨hn b hb, ?_, fun z => ?_, .inl hb, fun x c e' => (f2 b hb).2.2.2.2.1 x c (S.csub I2.ok e'), fun p hp => (by cases hp)⟩
      · exact Nat.ne_of_lt (show @LT.lt Nat _ b C by omega)
      · rcases List.mem_cons.mp (I2.stkSub b z) with q | q
        · exact (f2 b hb).2.1 q
        · exact (f2 b hb).2.2.1 q
    refine compLoop_anyX (fun n s' => ∃ i σ' H', Inv (cxComp X scope C N s2 H2 fp) [] σ' H' s' ∧ tn i s'.heap ∧ (∀ b ∈ fp, H' b = none) ∧ W i n σ' H') ?_ m0
      ⟨0, _, _, I4, T.keep _ _ _ st2 fun b _ o e => old b o e, frz, w0⟩
    rintro n s3 ⟨i, σ3, H3, I3, st3, fr3, w3⟩
    rcases turn i n σ3 H3 w3 with ⟨stop, qn⟩ | ⟨go, Nx, hNx, step⟩
    · refine thn (T.done (cxComp X scope C N s2 H2 fp) rfl rfl rfl hc i [] s3 σ3 H3 _ I3 (stat fr3) st3 stop) fun r s4 ⟨hr, J4⟩ => ?_
      subst hr
      obtain ⟨m4, hn4, _⟩ := J4.loc
      exact fin D C H3 s4 ⟨m4, hn4⟩ (I2.uncomp f2 (by omega) J4 (Heap.SameBut.refl _ _)) (fun h' hs' => I2.uncomp f2 (by omega) J4 hs') (I2.fpOk (show s2.heap.objs.size ≤ C by omega) J4.free) qn
    · refine thn (T.item (cxComp X scope C N s2 H2 fp) rfl rfl rfl hc i [] s3 σ3 H3 _ I3 (stat fr3) st3 go) fun r s4 ⟨u, hr, h4⟩ => ?_
      subst hr
      refine thn h4 fun _ s5 ⟨x, H5, I5, r5, y5, st5, fr5⟩ => ?_
      have I5' := I5.pinned (stat fr5) (T.obj _ _ st5)
      refine thn (hg C s2 H2 fp _ s5 σ3 H5 x u _ I5' r5 (step x H5 y5)) fun _ s6 ⟨σ6, H6, I6, q6⟩ => ?_
      refine thn (hcs C s2 H2 fp _ s6 σ6 H6 _ I6 q6) fun ok s7 ⟨H7, I7, q7⟩ => ?_
      have again : ∀ {σ8 : St} {H8 : Hp} {s8 : Shared}, Inv (cxComp X scope C N s2 H2 fp) ([] ++ pinsAt fp s5.heap) σ8 H8 s8 → Nx σ8 H8 → ∃ m, m < n ∧ ∃ i σ' H', Inv (cxComp X scope C N s2 H2 fp) [] σ' H' s8 ∧ tn i s8.heap ∧ (∀ b ∈ fp, H' b = none) ∧ W i m σ' H' := fun {σ8 H8 s8} I8 n8 => by
        obtain ⟨m', hm, w8⟩ := hNx _ _ n8
        refine ⟨m', hm, i + 1, σ8, H8, I8.unpinned, T.keep _ _ _ st5 fun b hb o e => (I8.pin (b, o) (List.mem_append_right _ (List.mem_append_right _ (mem_pinsAt hb e)))).1, fun b hb => ?_, w8⟩
        obtain ⟨o, e, d⟩ := T.obj _ _ st5 b hb
        exact (I8.pin (b, o) (List.mem_append_right _ (List.mem_append_right _ (mem_pinsAt hb e)))).2.1
      cases ok with
      | false =>
        rw [if_neg (by decide)] at q7
        exact again I7 q7
      | true =>
        rw [if_pos rfl] at q7
        have hpn : ∀ b ∈ fp, ∃ o, (b, o) ∈ ([] ++ pinsAt fp s5.heap) := fun b hb => by
          obtain ⟨o, e, _⟩ := T.obj _ _ st5 b hb
          exact ⟨o, List.mem_append_right _ (mem_pinsAt hb e)⟩
        have RE := comp_error (scope := scope) (N := N) (use := use) (Qv := Qv) (D := D) (pn := [] ++ pinsAt fp s5.heap) I2 hx hstk R f2 (show s2.heap.objs.size ≤ C by omega) hpn
        have I7' := I7.toTry (notedBy (model X.prog X.w) X.A (cxComp X scope C N s2 H2 fp).env fun x s' => compPost (model X.prog X.w) X.A X.xe use Qv (.ref D) C (.error x) s')
        refine wpAny_mono (he C s2 H2 fp _ _ (fun b hb => ?_) RE [] s7 σ6 H7 _ I7' q7) (fun y s8 ⟨yv, H8, I8', r8, acc, ha, hlen, q8⟩ => ?_) fun x s8 hq => hq
        · obtain ⟨o, ho⟩ := hpn b hb
          exact ⟨o, List.mem_append_right _ ho⟩
        have I8 := I8'.ofTry
        exact thn (mt_append _ s8 σ6 H8 (.ref D) [yv] (.ref D) [y] (fun v H9 => Nx σ6 H9) I8 rfl (.cons r8 .nil) ⟨D, acc, yv, rfl, rfl, ha, hlen, q8⟩) fun _ s9 ⟨_, H9, I9, _, q9⟩ => again I9 q9
  exact codeAny_compStart_list (loop _ rfl) (T.self _ 0 _ _ _ (T.keep _ _ _ st2 fun b _ o e => old b o e) (loop _ rfl))

theorem pe_compX (hc : X.calm = true) (hx : X.ex = []) (hstk : X.stack = X.env :: X.outer ∧ X.env.frame = some X.env.locals) (R : RzA X E) (S : CompScope N own caps X.N X.env.scope scope) (hi : PI X tg iter wi)
    (hg : ∀ C s H fp, PG (cxComp X scope C N s H fp) tg g) (hcs : ∀ C s H fp, PTs (cxComp X scope C N s H fp) ifs tc) (he : ∀ C s H fp pn xe, (∀ b ∈ (cxElt X scope C N s H fp pn xe).ex, ∃ o, (b, o) ∈ (cxElt X scope C N s H fp pn xe).pn) → RzA (cxElt X scope C N s H fp pn xe) E → PE (cxElt X scope C N s H fp pn xe) elt te)
    (hs : ∀ x, foldedSetIterable iter X.env x = pure x := by intro _; rfl) : PE X (.ListComp elt [⟨tg, iter, ifs, 0⟩] scope pos) (tComp own caps wi g tc te) := by
  intro pins s σ H Q I h
  rw [eval_ListComp]
  refine comp_runX (use := none) hc hx hstk R S hg hcs he hi hs I h ?_
  intro D C H' s' hn I' hk _ q
  obtain ⟨m, hn⟩ := hn
  exact ⟨m, hn, fun h' hs' => ⟨.ref D, H', hk h' hs', rfl, q⟩⟩
theorem ps_setCX {i : Nat} {x : Str} {px sp : Pos} (hc : X.calm = true) (hN : X.N.Nodup) (hxi : X.N[i]? = some x) (hl : Loc X.env.scope x) (hx : X.ex = []) (hstk : X.stack = X.env :: X.outer ∧ X.env.frame = some X.env.locals) (R : RzA X E) (S : CompScope N own caps X.N X.env.scope scope) (hi : PI X tg iter wi)
    (hg : ∀ C s H fp, PG (cxComp X scope C N s H fp) tg g) (hcs : ∀ C s H fp, PTs (cxComp X scope C N s H fp) ifs tc) (he : ∀ C s H fp pn xe, (∀ b ∈ (cxElt X scope C N s H fp pn xe).ex, ∃ o, (b, o) ∈ (cxElt X scope C N s H fp pn xe).pn) → RzA (cxElt X scope C N s H fp pn xe) E → PE (cxElt X scope C N s H fp pn xe) elt te)
    (hsw : swapsWith (.ListComp elt [⟨tg, iter, ifs, 0⟩] scope pos) (some (.Name x px)) sp.line X.env = pure true := by rfl)
    (hs : ∀ x, foldedSetIterable iter X.env x = pure x := by intro _; rfl) (hf : X.fn x = true ∨ X.env.scope.names.lookup x = some .local := by first | exact .inl rfl | exact .inr rfl | assumption) :
    PS X (.Assign [.Name x px] (.ListComp elt [⟨tg, iter, ifs, 0⟩] scope pos) sp) (tAsg (tComp own caps wi g tc te) (gName i)) := by
  intro pins s σ H D I h
  rw [exec_Assign_Name_used _ _ _ _ hsw]
  refine wpAny_bind (wpAny_standAt (wpAny_bind ?_))
  show wpAny _ X.A (do let _ ← comprehension (.ListComp elt [⟨tg, iter, ifs, 0⟩] scope pos) scope X.env (firstIterPos [⟨tg, iter, ifs, 0⟩] pos) (newList []) false (eval iter X.env) (some (assign (.Name x px) X.env))) _ _ s
  refine wpAny_bind (wpAny_mono (comp_runX (use := some (assign (.Name x px) X.env)) (Qv := fun _ s' => SP X pins D .next s') hc hx hstk R S hg hcs he hi hs I h ?_) (fun _ s' hq => wpAny_pure (wpAny_pure hq)) fun _ _ e => e)
  intro E C H' s' hn I' hk fC q
  obtain ⟨m, hn⟩ := hn
  obtain ⟨f0, f1, f2, f3, f4, f5⟩ := fC
  show wpAny _ X.A (assign (.Name x px) X.env (.ref E)) _ _ _
  refine wpAny_assign_Name (store_ok2 I' hN hxi hl (v := .ref E) rfl (fun s2 I2 k => ?_) hf)
  refine ⟨m, ?_, fun h' hs' => ?_⟩
  · obtain ⟨o, es, ep, ho, r⟩ := hn
    obtain ⟨a, ks, ka⟩ := k
    have hCa : C ≠ a := fun z => by
      rcases ka with q' | q'
      · exact f1 (z.trans q')
      · exact f4 x a q' z.symm
    exact ⟨o, es, ep, (ks.2 C hCa).trans ho, r⟩
  · exact ⟨_, H', I2.turned (t' := s2.toks) (fun b o hb e => (hs'.2 b hb).trans e) f0 f1 f3 f4 f5, q⟩
end
section
variable {X : Cx} {k : Nat} {x : Str} {ps : List Str} {sp : Sp} {e : Expr} {es : List Expr} {t : TA} {p pos : Pos} {E : XK}
/-- a call that may raise, anywhere -/
theorem pe_fnA (F : FnAtX X.prog X.w X.K X.mg X.base k x ps sp) (hx : ∀ b ∈ X.ex, ∃ o, (b, o) ∈ X.pn) (R : RzA X E) (hr : Room k X.A) (hg : Gl X x) (ha : PA X (e :: es) t) (hd : (x == ("__debug__" : Str)) = false := by decide)
    (he : starEach (e :: es) X.env = (false, eval e X.env) :: starEach es X.env := by rfl) (hpl : (backTo pos (starEach es X.env)).any (·.1) = false := by rfl) :
    PE X (.Call (.Name x p) (e :: es) [] pos) (tCallX sp (fun _ => E) t) := by
  obtain ⟨f, fd, G, hm, hk, hb⟩ := F
  intro pins s σ H Q I h
  refine wpAny_Call_Name_kw (ld_glob I hg hm ?_ hd)
  refine PySem.W.callWith_K (h₀ := X.base) I.ok.mod.kin hk (thn (ha pos pins s σ H _ I h) fun us s1 ⟨vs, H1, I1, r, q⟩ => ⟨I1.kIn, ?_⟩) he hpl
  have hlen : us.length = ps.length := by rw [← r.length]; exact G.len _ _ _ _ q
  have hbd := hb s1 us I1.kIn (by rw [List.append_nil]; exact hlen)
  rw [List.append_nil] at hbd
  refine wpAny_call (codeAny_mono (G.run X.A X.stack s1 H1 ⟨us, []⟩ us vs Q E hr I1.env0 hbd r q) fun res s' hq => ?_)
  match res, hq with
  | .error ev, hq => exact passesA hx R I1 hq
  | .ok (.ret u), hq => exact I1.after hq
end
end L2
set_option Elab.async false
set_option linter.all false
set_option maxRecDepth 100000
set_option maxHeartbeats 1000000
namespace L2
open PySem PySem.Spec PyProof.Rows
/-! ### a list of anything against an empty list -/
def rNil (K : PySem.W.Frag) (neg : Bool) : R2 := fun x y H Q => ∃ (p q : Addr) (vs : List V), x = .ref p ∧ y = .ref q ∧ SqL K H p vs ∧ SqL K H q [] ∧ Q (.bl (if neg then !vs.isEmpty else vs.isEmpty)) H
section
variable {X : Cx} {K : PySem.W.Frag}
theorem nil_vals {us : List Value} (r : Vals [] us) : us = [] := by cases r; rfl
theorem op_neNil (hK : X.K = K) (hu : X.A.units + 64 < cLine) : OpR X (compareOp .NotEq) (rNil K true) := by
  subst hK
  intro pins s σ H x y v u Q I rx ry h
  obtain ⟨p, q, vs, rfl, rfl, hp, hq, k⟩ := h
  cases rx
  cases ry
  obtain ⟨its, r, pl, _⟩ := I.list hp
  obtain ⟨its2, r2, pl2, _⟩ := I.list hq
  have e2 := nil_vals r2
  subst e2
  have hl := r.length
  have hu' : X.A.units < cLine := by have := natlt hu; exact Nat.lt_of_le_of_lt (Nat.le_add_right _ 64) this
  cases vs with
  | nil =>
    have e1 := nil_vals r
    subst e1
    exact SeqAt.RcNeAt.lists (e := fun _ => true) pl.isList pl2.isList rfl hu' (fun j h1 => absurd h1 (Nat.not_lt_zero j)) X.prog X.w X.xe _ ⟨.bl false, H, I, rfl, k⟩
  | cons a vs =>
    refine SeqAt.RcNeAt.lists_lengths pl.isList pl2.isList ?_ hu' X.prog X.w X.xe _ ⟨.bl true, H, I, rfl, k⟩
    cases its with
    | nil => cases hl
    | cons b l => rfl
end
end L2
set_option Elab.async false
set_option linter.all false
set_option maxRecDepth 100000
set_option maxHeartbeats 4000000


namespace Prf
open PySem L2
def top (i : Nat) : Stmt := PySem.Challenge.pw_fewnotes_k64_texts_of_no_record.main.body.getD i (.Pass ⟨0, 0, 0, 0⟩)
abbrev s_is_whole : Stmt := top 20
abbrev s_is_below : Stmt := top 21
abbrev s_number_of : Stmt := top 26
abbrev s_is_note : Stmt := top 28
abbrev s_check_notes : Stmt := top 30
abbrev s_is_between : Stmt := top 31
abbrev s_read_record : Stmt := top 34
abbrev s_read_counts : Stmt := top 35
abbrev s_read_note : Stmt := top 36
abbrev s_read_touch : Stmt := top 37
abbrev s_read_number : Stmt := top 38
abbrev s_Lreel : Stmt := top 40
abbrev s_Ldraw : Stmt := top 41
abbrev s_Lcounts : Stmt := top 43
abbrev s_Lsome_notes : Stmt := top 44
abbrev s_Lrecord : Stmt := top 45
abbrev s_Ltext : Stmt := top 46
abbrev s_Lflags : Stmt := top 47
abbrev s_Lsigns : Stmt := top 48
abbrev s_Lfree_text : Stmt := top 49
abbrev s_Lsign_spoilt : Stmt := top 50
abbrev s_Lword_spoilt : Stmt := top 51
abbrev s_Lnumber : Stmt := top 52
abbrev s_Ltouch : Stmt := top 53
abbrev s_Ldue : Stmt := top 54
abbrev s_Lright : Stmt := top 55
abbrev s_law : Stmt := top 56
structure Blt (mg : Str → Option Value) : Prop where
  b_ValueError : mg "ValueError" = none
  b_abs : mg "abs" = none
  b_all : mg "all" = none
  b_bool : mg "bool" = none
  b_enumerate : mg "enumerate" = none
  b_int : mg "int" = none
  b_isinstance : mg "isinstance" = none
  b_len : mg "len" = none
  b_list : mg "list" = none
  b_max : mg "max" = none
  b_min : mg "min" = none
  b_range : mg "range" = none
  b_str : mg "str" = none
  b_sum : mg "sum" = none
  b_tuple : mg "tuple" = none
  b_zip : mg "zip" = none
theorem sc_is_whole : FnScope ["value"] ["value"] (defScope s_is_whole) := ⟨rfl, rfl, rfl, by decide +kernel, rfl, by decide +kernel, by decide +kernel⟩
theorem sc_is_below : FnScope ["value", "count"] ["value", "count"] (defScope s_is_below) := ⟨rfl, rfl, rfl, by decide +kernel, rfl, by decide +kernel, by decide +kernel⟩
theorem sc_number_of : FnScope ["word"] ["word"] (defScope s_number_of) := ⟨rfl, rfl, rfl, by decide +kernel, rfl, by decide +kernel, by decide +kernel⟩
theorem sc_is_note : FnScope ["value"] ["value"] (defScope s_is_note) := ⟨rfl, rfl, rfl, by decide +kernel, rfl, by decide +kernel, by decide +kernel⟩
theorem sc_check_notes : FnScope ["record"] ["record"] (defScope s_check_notes) := ⟨rfl, rfl, rfl, by decide +kernel, rfl, by decide +kernel, by decide +kernel⟩
theorem sc_is_between : FnScope ["counts", "note"] ["counts", "note"] (defScope s_is_between) := ⟨rfl, rfl, rfl, by decide +kernel, rfl, by decide +kernel, by decide +kernel⟩
theorem sc_read_record : FnScope ["text", "lines", "record"] ["text"] (defScope s_read_record) := ⟨rfl, rfl, rfl, by decide +kernel, rfl, by decide +kernel, by decide +kernel⟩
theorem sc_read_counts : FnScope ["line", "words", "counts"] ["line"] (defScope s_read_counts) := ⟨rfl, rfl, rfl, by decide +kernel, rfl, by decide +kernel, by decide +kernel⟩
theorem sc_read_note : FnScope ["line", "words"] ["line"] (defScope s_read_note) := ⟨rfl, rfl, rfl, by decide +kernel, rfl, by decide +kernel, by decide +kernel⟩
theorem sc_read_touch : FnScope ["word", "halves"] ["word"] (defScope s_read_touch) := ⟨rfl, rfl, rfl, by decide +kernel, rfl, by decide +kernel, by decide +kernel⟩
theorem sc_read_number : FnScope ["word", "number"] ["word"] (defScope s_read_number) := ⟨rfl, rfl, rfl, by decide +kernel, rfl, by decide +kernel, by decide +kernel⟩
theorem sc_Lreel : FnScope ["cell", "k"] ["cell", "k"] (defScope s_Lreel) := ⟨rfl, rfl, rfl, by decide +kernel, rfl, by decide +kernel, by decide +kernel⟩
theorem sc_Ldraw : FnScope ["reel", "many", "found", "turned"] ["reel", "many"] (defScope s_Ldraw) := ⟨rfl, rfl, rfl, by decide +kernel, rfl, by decide +kernel, by decide +kernel⟩
theorem sc_Lcounts : FnScope ["reel", "counts", "left", "k", "most"] ["reel"] (defScope s_Lcounts) := ⟨rfl, rfl, rfl, by decide +kernel, rfl, by decide +kernel, by decide +kernel⟩
theorem sc_Lsome_notes : FnScope ["reel", "counts", "many", "there", "found", "k", "hand", "others", "other"] ["reel", "counts", "many"] (defScope s_Lsome_notes) := ⟨rfl, rfl, rfl, by decide +kernel, rfl, by decide +kernel, by decide +kernel⟩
theorem sc_Lrecord : FnScope ["reel", "many", "counts"] ["reel"] (defScope s_Lrecord) := ⟨rfl, rfl, rfl, by decide +kernel, rfl, by decide +kernel, by decide +kernel⟩
theorem sc_Ltext : FnScope ["record", "rows", "hand", "k", "other", "m"] ["record"] (defScope s_Ltext) := ⟨rfl, rfl, rfl, by decide +kernel, rfl, by decide +kernel, by decide +kernel⟩
theorem sc_Lflags : FnScope ["e", "told"] ["e"] (defScope s_Lflags) := ⟨rfl, rfl, rfl, by decide +kernel, rfl, by decide +kernel, by decide +kernel⟩
theorem sc_Lsigns : FnScope [] [] (defScope s_Lsigns) := ⟨rfl, rfl, rfl, by decide +kernel, rfl, by decide +kernel, by decide +kernel⟩
theorem sc_Lfree_text : FnScope ["reel", "counts", "rows", "k", "words", "j"] ["reel"] (defScope s_Lfree_text) := ⟨rfl, rfl, rfl, by decide +kernel, rfl, by decide +kernel, by decide +kernel⟩
theorem sc_Lsign_spoilt : FnScope ["reel", "text", "kind", "at", "sign"] ["reel", "text"] (defScope s_Lsign_spoilt) := ⟨rfl, rfl, rfl, by decide +kernel, rfl, by decide +kernel, by decide +kernel⟩
theorem sc_Lword_spoilt : FnScope ["reel", "text", "odd", "rows", "kind", "row", "at", "word", "words", "other", "turned"] ["reel", "text"] (defScope s_Lword_spoilt) := ⟨rfl, rfl, rfl, by decide +kernel, rfl, by decide +kernel, by decide +kernel⟩
theorem sc_Lnumber : FnScope ["word"] ["word"] (defScope s_Lnumber) := ⟨rfl, rfl, rfl, by decide +kernel, rfl, by decide +kernel, by decide +kernel⟩
theorem sc_Ltouch : FnScope ["word", "parts"] ["word"] (defScope s_Ltouch) := ⟨rfl, rfl, rfl, by decide +kernel, rfl, by decide +kernel, by decide +kernel⟩
theorem sc_Ldue : FnScope ["text", "rows", "words", "counts", "ties", "row", "touches", "hand", "k", "other", "m"] ["text"] (defScope s_Ldue) := ⟨rfl, rfl, rfl, by decide +kernel, rfl, by decide +kernel, by decide +kernel⟩
theorem sc_Lright : FnScope ["text", "due", "found", "caught", "e"] ["text"] (defScope s_Lright) := ⟨rfl, rfl, rfl, by decide +kernel, rfl, by decide +kernel, by decide +kernel⟩
theorem sc_law : FnScope ["script", "cells", "k", "cell", "reel", "free", "spoils", "text", "many", "some", "j"] ["script"] (defScope s_law) := ⟨rfl, rfl, rfl, by decide +kernel, rfl, by decide +kernel, by decide +kernel⟩
section
variable {P : Program} {w : World} {K : PySem.W.Frag} {mg : Str → Option Value} {base : Heap}
/-! ### the reel and its draws -/
def ReelOk (H : Hp) (r : Addr) : Prop := ∃ f t : Int, H r = some (.lst [.int f, .int t]) ∧ 0 ≤ f ∧ 0 ≤ t ∧ t < 2147483647
theorem ReelOk.keep {H H' : Hp} {r : Addr} (h : ReelOk H r) (k : Same H H') : ReelOk H' r := by
  obtain ⟨f, t, e, q⟩ := h
  exact ⟨f, t, k _ _ e, q⟩
theorem ReelOk.kp {H H' : Hp} {r p : Addr} (h : ReelOk H r) (k : Kp p H H') (n : r ≠ p) : ReelOk H' r := by
  obtain ⟨f, t, e, q⟩ := h
  exact ⟨f, t, k _ _ e n, q⟩
theorem ReelOk.ne {H : Hp} {r p : Addr} (h : ReelOk H r) (hp : H p = none) : p ≠ r := by
  obtain ⟨f, t, e, _⟩ := h
  exact (ne_of_none e hp).symm
theorem ReelOk.at {H : Hp} {r : Addr} (h : ReelOk H r) : ∃ o, H r = some o := by
  obtain ⟨f, t, e, _⟩ := h
  exact ⟨_, e⟩
theorem ReelOk.lst {H : Hp} {r : Addr} (h : ReelOk H r) : ∃ ys, H r = some (.lst ys) := by
  obtain ⟨f, t, e, _⟩ := h
  exact ⟨_, e⟩
theorem Kp.new {H H' : Hp} {r p : Addr} (k : Kp r H H') (hp : H' p = none) (hr : ∃ o, H' r = some o) : H p = none := by
  cases e : H p with
  | none => rfl
  | some o =>
    by_cases n : p = r
    · subst n
      obtain ⟨o', ho⟩ := hr
      rw [hp] at ho
      cases ho
    · rw [k _ _ e n] at hp
      cases hp
def spReel (K : PySem.W.Frag) : Sp := fun vs H Q _ => ∃ (z k : Int), vs = [.int z, .int k] ∧ 0 ≤ k ∧ k < 100 ∧ ∀ (r : Addr) (H' : Hp), H r = none → ReelOk H' r → Same H H' → Q (.ref r) H'
theorem ok_reel {f : Addr} {fd : FuncData} (F : Fun K "_law_reel" "_law_reel" s_Lreel f fd) (Bt : Blt mg) : FnOk P w K mg base CX0 1 f fd ["cell", "k"] (spReel K) := by
  refine F.ok sc_Lreel (fun vs H Q E h => ?_) (fun cdv A outer s H vs Q E hr h => ?_)
  · obtain ⟨z, k, rfl, _⟩ := h
    rfl
  · obtain ⟨z, k, rfl, k0, k1, q⟩ := h
    refine ⟨_, (pss_one (ps_ret (pe_lst (pa_cons (pe_callB call_abs (by rfl) Bt.b_abs bt_abs (pa_cons (pv 0) pa_nil)) (pa_cons (pe_op op_mod (pe_op op_mul (pe_op op_add (pe_op op_mod (pe_callB call_abs (by rfl) Bt.b_abs bt_abs (pa_cons (pv 0) pa_nil)) pe_int) pe_int) (pe_op op_add (pe_op op_mul pe_int (pv 1)) pe_int)) pe_int) pa_nil))))), ?_⟩
    have m0 : (0 : Int) ≤ (if z < 0 then -z else z) % 2147483629 := Int.emod_nonneg _ (by decide)
    have m1 : (if z < 0 then -z else z) % 2147483629 < (2147483629 : Int) := Int.emod_lt_of_pos _ (by decide)
    refine ⟨_, rfl, _, rfl, _, rfl, _, rfl, _, _, rfl, rfl, (by show (0 : Int) < 2147483629; decide), _, _, rfl, rfl, _, rfl, _, _, rfl, rfl, .inl ⟨by decide, by decide⟩, _, _, rfl, rfl, _, _, rfl, rfl, .inl ⟨by omega, by omega⟩, _, _, rfl, rfl, (by show (0 : Int) < 2147483647; decide), (by show 2 ≤ sizeLine; decide), fun r hr' => ?_⟩
    refine q r _ hr' ⟨_, _, upd_same, ?_, Int.emod_nonneg _ (by decide), Int.emod_lt_of_pos _ (by decide)⟩ (same_new hr')
    split <;> omega
def spDraw (K : PySem.W.Frag) : Sp := fun vs H Q _ => ∃ (r : Addr) (m : Int), vs = [.ref r, .int m] ∧ ReelOk H r ∧ 0 < m ∧ m < 1073741824 ∧ ∀ (n : Int) (H' : Hp), 0 ≤ n → n < m → ReelOk H' r → Kp r H H' → Q (.int n) H'
theorem ok_draw {f : Addr} {fd : FuncData} (F : Fun K "_law_draw" "_law_draw" s_Ldraw f fd) : FnOk P w K mg base CX0 1 f fd ["reel", "many"] (spDraw K) := by
  refine F.ok sc_Ldraw (fun vs H Q E h => ?_) (fun cdv A outer s H vs Q E hr h => ?_)
  · obtain ⟨r, m, rfl, _⟩ := h
    rfl
  · obtain ⟨r, m, rfl, ⟨f, t, hs, hf, ht, ht2⟩, m0, m1, k⟩ := h
    refine ⟨_, (pss_cons (ps_if (pt_cmpR op_ge (pe_ix (ix_listK (K := K) rfl) (pv 0) pe_int (fun _ _ => rfl)) (pe_op op_pow pe_int pe_int) (nomark _)) (pss_cons (ps_set (i := 2) sc_Ldraw.nd rfl (Or.inl rfl) (pe_op op_mod (pe_ix (ix_listK (K := K) rfl) (pv 0) pe_int (fun _ _ => rfl)) (pv 1)))
      (pss_cons (ps_asg (pe_op op_fdiv (pe_ix (ix_listK (K := K) rfl) (pv 0) pe_int (fun _ _ => rfl)) (pv 1)) (pg_sub (pv 0) pe_int set_list))
      (pss_one (ps_ret (pv 2))))) pss_nil)
      (pss_cons (ps_asg (pe_op op_mod (pe_op op_mul (pe_op op_add (pe_ix (ix_listK (K := K) rfl) (pv 0) pe_int (fun _ _ => rfl)) pe_int) pe_int) pe_int) (pg_sub (pv 0) pe_int set_list))
      (pss_cons (ps_set (i := 3) sc_Ldraw.nd rfl (Or.inl rfl) (pe_op op_mod (pe_op op_mul (pe_ix (ix_listK (K := K) rfl) (pv 0) pe_int (fun _ _ => rfl)) (pe_ix (ix_listK (K := K) rfl) (pv 0) pe_int (fun _ _ => rfl))) pe_int))
      (pss_one (ps_ret (pe_op op_mod (pe_op op_fdiv (pe_op op_mod (pe_op op_mul (pv 3) pe_int) pe_int) pe_int) (pv 1))))))), ?_⟩
    refine ⟨_, rfl, _, _, _, _, rfl, rfl, SqL.of hs, rfl, _, _, rfl, rfl, (by show CPow 10 18; exact ⟨by decide, by decide, by decide⟩), _, _, rfl, rfl, _, rfl, ?_⟩
    refine ite2 (fun h0 => ?_) (fun h0 => ?_)
    · refine ⟨_, rfl, _, _, _, _, rfl, rfl, SqL.of hs, rfl, _, rfl, _, _, rfl, rfl, m0, ?_⟩
      refine ⟨_, rfl, _, _, _, _, rfl, rfl, SqL.of hs, rfl, _, rfl, _, _, rfl, rfl, ⟨m0, m1⟩, _, rfl, _, _, _, _, rfl, rfl, hs, rfl, ?_⟩
      refine ⟨_, rfl, ?_⟩
      exact k _ _ (Int.emod_nonneg _ (by omega)) (Int.emod_lt_of_pos _ m0) ⟨_, _, upd_same, Int.ediv_nonneg hf (by omega), ht, ht2⟩ Kp.set
    · -- reel[1] = (reel[1] + 1) * 48271 % ..
      refine ⟨_, rfl, _, _, _, _, rfl, rfl, SqL.of hs, rfl, _, _, rfl, rfl, _, _, rfl, rfl, .inr ⟨by decide, by decide⟩, _, _, rfl, rfl, (by show (0 : Int) < 2147483647; decide), _, rfl, _, _, _, _, rfl, rfl, hs, rfl, ?_⟩
      have g0 : (0 : Int) ≤ (t + 1) * 48271 % 2147483647 := Int.emod_nonneg _ (by decide)
      have g1 : (t + 1) * 48271 % 2147483647 < (2147483647 : Int) := Int.emod_lt_of_pos _ (by decide)
      refine ⟨_, rfl, _, _, _, _, rfl, rfl, SqL.of upd_same, rfl, _, rfl, _, _, _, _, rfl, rfl, SqL.of upd_same, rfl, _, _, rfl, rfl, .inl ⟨by omega, by omega⟩, _, _, rfl, rfl, (by show (0 : Int) < 2147483629; decide), ?_⟩
      refine ⟨_, rfl, _, _, rfl, rfl, .inr ⟨by decide, by decide⟩, _, _, rfl, rfl, (by show (0 : Int) < 2147483587; decide), _, _, rfl, rfl, (by show CDiv _ 8; exact ⟨by decide, by decide⟩), _, rfl, _, _, rfl, rfl, m0, ?_⟩
      exact k _ _ (Int.emod_nonneg _ (by omega)) (Int.emod_lt_of_pos _ m0) ⟨_, _, upd_same, hf, g0, g1⟩ Kp.set
/-! ### records -/
abbrev Nt := Int × Int × Int × Int
def nD (x : Nt) : PyData := .tuple [.int x.1, .int x.2.1, .int x.2.2.1, .int x.2.2.2]
def nV (x : Nt) : List V := [.int x.1, .int x.2.1, .int x.2.2.1, .int x.2.2.2]
theorem imm_nD (x : Nt) : imm (nD x) = true := rfl
theorem dats1 {H : Hp} {v : V} {d : PyData} (h : Dat H v d) : Dats H [v] [d] := by
  simp only [Dats, and_true]
  exact h
theorem dat_nt {H : Hp} {t : Addr} {x : Nt} (h : H t = some (.tup (nV x))) : Dat H (.ref t) (nD x) := by
  simp only [nD, Dat]
  exact ⟨t, _, rfl, h, by simp only [nV, Dats, Dat, and_self]⟩
theorem dat_nt_inv {H : Hp} {v : V} {x : Nt} (h : Dat H v (nD x)) : ∃ t, v = .ref t ∧ H t = some (.tup (nV x)) := by
  simp only [nD, Dat] at h
  obtain ⟨t, vs, e, q, d⟩ := h
  match vs, d with
  | [a, b, c, z], d =>
    simp only [Dats, Dat, and_true] at d
    obtain ⟨rfl, rfl, rfl, rfl⟩ := d
    exact ⟨t, e, q⟩
  | [], d => simp only [Dats] at d
  | [_], d => simp only [Dats, and_false] at d
  | [_, _], d => simp only [Dats, and_false] at d
  | [_, _, _], d => simp only [Dats, and_false] at d
  | _ :: _ :: _ :: _ :: _ :: _, d => simp only [Dats, and_false] at d
def NtsAt (H : Hp) (a : Addr) (ns : List Nt) : Prop := ∃ vs, H a = some (.lst vs) ∧ Dats H vs (ns.map nD)
theorem NtsAt.kp {H H' : Hp} {a r : Addr} {ns : List Nt} (h : NtsAt H a ns) (hr : ∀ a xs, H a = some (HO.tup xs) → H' a = some (HO.tup xs)) (k : Kp r H H') (n : a ≠ r) : NtsAt H' a ns := by
  obtain ⟨vs, e, d⟩ := h
  exact ⟨vs, k _ _ e n, Dats.keep hr _ (imms_map _ imm_nD ns) d⟩
theorem NtsAt.same {H H' : Hp} {a : Addr} {ns : List Nt} (h : NtsAt H a ns) (k : Same H H') : NtsAt H' a ns := by
  obtain ⟨vs, e, d⟩ := h
  exact ⟨vs, k _ _ e, Dats.keep k.tups _ (imms_map _ imm_nD ns) d⟩
theorem nts_get {H : Hp} {vs : List V} {ns : List Nt} {i : Nat} {v : V} (d : Dats H vs (ns.map nD)) (e : vs[i]? = some v) : ∃ x t, ns[i]? = some x ∧ v = .ref t ∧ H t = some (.tup (nV x)) := by
  obtain ⟨q, eq, dq⟩ := d.get e
  rw [List.getElem?_map] at eq
  cases ex : ns[i]? with
  | none => rw [ex] at eq; cases eq
  | some x =>
    rw [ex] at eq
    cases eq
    obtain ⟨t, rfl, ht⟩ := dat_nt_inv dq
    exact ⟨x, t, rfl, rfl, ht⟩
def gI (cs : List Int) (h : Int) : Int := (cs[h.toNat]?).getD 0
theorem atI_gI {cs : List Int} {h : Int} (h0 : 0 ≤ h) (h1 : h < cs.length) : atI (cs.map V.int) h = some (.int (gI cs h)) := by
  obtain ⟨m, rfl⟩ := Int.eq_ofNat_of_zero_le h0
  have : m < cs.length := by (clear h0; omega)
  refine atI_nat ?_
  simp [gI, this]
def NtOk (cs : List Int) (x : Nt) : Prop := (0 ≤ x.1 ∧ x.1 < cs.length) ∧ (0 ≤ x.2.1 ∧ x.2.1 < gI cs x.1) ∧ (0 ≤ x.2.2.1 ∧ x.2.2.1 < cs.length) ∧ (0 ≤ x.2.2.2 ∧ x.2.2.2 < gI cs x.2.2.1) ∧ x.1 ≠ x.2.2.1
def CsOk (cs : List Int) : Prop := cs.length ≤ 8 ∧ ∀ c ∈ cs, 0 ≤ c ∧ c ≤ 300
theorem CsOk.gI {cs : List Int} (h : CsOk cs) (i : Int) : 0 ≤ gI cs i ∧ gI cs i ≤ 300 := by
  unfold Prf.gI
  cases e : cs[i.toNat]? with
  | none => simp
  | some c => exact h.2 c (List.mem_of_getElem? e)

/-- the hands that have some left -/
def pos (ls : List Int) : List Int := (List.range ls.length).filterMap fun (i : Nat) => if gI ls (i : Int) > 0 then some (i : Int) else none
theorem mem_pos {ls : List Int} {h : Int} (m : h ∈ pos ls) : 0 ≤ h ∧ h < ls.length ∧ 0 < gI ls h := by
  unfold pos at m
  rw [List.mem_filterMap] at m
  obtain ⟨i, hi, e⟩ := m
  have hi' : i < ls.length := by simpa using hi
  by_cases q : gI ls i > 0
  · rw [if_pos q] at e
    cases e
    exact ⟨by omega, by omega, q⟩
  · rw [if_neg q] at e
    cases e
theorem pos_len (ls : List Int) : (pos ls).length ≤ ls.length := fm_len _ _
theorem pos_nodup (ls : List Int) : (pos ls).Nodup := by
  unfold pos
  refine List.Pairwise.filterMap (R := fun a b => a ≠ b) _ ?_ List.nodup_range
  intro a b n c ec d ed
  by_cases q : gI ls a > 0
  · by_cases q2 : gI ls b > 0
    · rw [if_pos q] at ec
      rw [if_pos q2] at ed
      cases ec
      cases ed
      intro z
      exact n (by omega)
    · rw [if_neg q2] at ed
      cases ed
  · rw [if_neg q] at ec
    cases ec
theorem pos_map (ls : List Int) : (List.range ls.length).filterMap (fun (i : Nat) => if gI ls (i : Int) > 0 then some (V.int (0 + (i : Int))) else none) = (pos ls).map V.int := by
  unfold pos
  rw [List.map_filterMap]
  refine fm_congr _ trivial fun i _ => ?_
  by_cases q : gI ls (i : Int) > 0
  · rw [if_pos q, if_pos q]; simp
  · rw [if_neg q, if_neg q]; rfl
theorem eqv_nD (x y : Nt) : PyData.eqv (nD x) (nD y) = decide (x = y) := by
  obtain ⟨a, b, c, d⟩ := x
  obtain ⟨a', b', c', d'⟩ := y
  simp only [nD, PyData.eqv, PyData.eqvAll, Bool.and_true]
  by_cases e1 : a = a'
  · subst e1
    by_cases e2 : b = b'
    · subst e2
      by_cases e3 : c = c'
      · subst e3
        by_cases e4 : d = d'
        · subst e4; simp
        · simp [e4]
      · simp [e3]
    · simp [e2]
  · simp [e1]
theorem shaped_nts (ns : List Nt) : SeqAt.shaped (.list (ns.map nD)) = true :=
  shaped_list nD 1 (by decide) (fun _ _ => rfl) (fun _ _ => by show (max 0 (max 0 (max 0 (max 0 0)))) + 1 ≤ 1; decide)
/-- a record at t: its counts at c, its notes at a -/
def RecAt (H : Hp) (t c a : Addr) (cs : List Int) (ns : List Nt) : Prop := H t = some (.tup [.ref c, .ref a]) ∧ H c = some (.lst (cs.map V.int)) ∧ NtsAt H a ns
theorem RecAt.same {H H' : Hp} {t c a : Addr} {cs : List Int} {ns : List Nt} (h : RecAt H t c a cs ns) (k : Same H H') : RecAt H' t c a cs ns := ⟨k _ _ h.1, k _ _ h.2.1, h.2.2.same k⟩
def RecOk (cs : List Int) (ns : List Nt) : Prop := CsOk cs ∧ ns.length ≤ 100 ∧ ∀ x ∈ ns, NtOk cs x

def spCounts (K : PySem.W.Frag) : Sp := fun vs H Q _ => ∃ (r : Addr), vs = [.ref r] ∧ ReelOk H r ∧ ∀ (a : Addr) (cs : List Int) (H' : Hp), H a = none → H' a = some (.lst (cs.map V.int)) → CsOk cs → cs.sum ≤ 300 → ReelOk H' r → Kp r H H' → Q (.ref a) H'
theorem ok_counts {f : Addr} {fd : FuncData} (F : Fun K "_law_counts" "_law_counts" s_Lcounts f fd) (F_Ldraw : FnAt P w K mg base 1 "_law_draw" ["reel", "many"] (spDraw K)) (Bt : Blt mg) : FnOk P w K mg base CX0 2 f fd ["reel"] (spCounts K) := by
  refine F.ok sc_Lcounts (fun vs H Q E h => ?_) (fun cdv A outer s H vs Q E hr h => ?_)
  · obtain ⟨r, rfl, _⟩ := h
    rfl
  · obtain ⟨r, rfl, R0, k⟩ := h
    refine ⟨_, (pss_cons (ps_set (i := 1) sc_Lcounts.nd rfl (Or.inl rfl) (pe_lst pa_nil))
      (pss_cons (ps_set (i := 2) sc_Lcounts.nd rfl (Or.inl rfl) pe_int)
      (pss_cons (ps_for PassesOwn.never rfl (pi_range1 (by rfl) Bt.b_range (pa_cons (pe_fn F_Ldraw (hr.mono (by decide)) (by rfl) (pa_cons (pv 0) (pa_cons pe_int pa_nil))) pa_nil)) (pg_name (i := 3) sc_Lcounts.nd rfl (Or.inl rfl))
      (pss_cons (ps_set (i := 4) sc_Lcounts.nd rfl (Or.inl rfl) (pe_ix (ix_listK (K := K) rfl) (pe_lst (pa_cons pe_int (pa_cons pe_int (pa_cons pe_int (pa_cons (pe_op op_add (pv 2) pe_int) pa_nil))))) (pe_fn F_Ldraw (hr.mono (by decide)) (by rfl) (pa_cons (pv 0) (pa_cons pe_int pa_nil))) (fun _ _ => rfl)))
      (pss_cons (ps_expr (pe_appendK (K := K) rfl (pv 1) (pa_cons (pe_fn F_Ldraw (hr.mono (by decide)) (by rfl) (pa_cons (pv 0) (pa_cons (pe_callB (call_min2 rfl) (by rfl) Bt.b_min bt_min (pa_cons (pv 4) (pa_cons (pe_op op_add (pv 2) pe_int) pa_nil))) pa_nil))) pa_nil)))
      (pss_one (ps_set (i := 2) sc_Lcounts.nd rfl (Or.inl rfl) (pe_op op_sub (pv 2) (pe_ix (ix_listK (K := K) rfl) (pv 1) (pe_un un_neg pe_int) (fun _ _ => rfl))))))))
      (pss_one (ps_ret (pv 1)))))), ?_⟩
    refine ⟨(by show 0 ≤ sizeLine; decide), fun p hp => ?_⟩
    have s1 := same_new (o := HO.lst []) hp
    have npr := R0.ne hp
    refine ⟨_, rfl, r, 9, rfl, R0.keep s1, by decide, by decide, fun n H1 n0 n1 R1 k1 => ?_⟩
    refine ⟨n, rfl, by omega, by omega, ?_⟩
    refine for_range (lo := 0) (n := n.toNat) (fun i σ H2 => ∃ (cs : List Int) (left : Int) (x1 x2 : Option V), σ = [some (.ref r), some (.ref p), some (.int left), x1, x2] ∧ H2 p = some (.lst (cs.map V.int)) ∧ cs.length = i ∧ cs.sum + left = 300 ∧ (∀ c ∈ cs, 0 ≤ c ∧ c ≤ 300) ∧ 0 ≤ left ∧ left ≤ 300 ∧ ReelOk H2 r ∧ Kp r H H2)
      ⟨[], 300, none, none, rfl, k1 _ _ upd_same npr, rfl, rfl, fun c hc => (by cases hc), by decide, by decide, R1, (Kp.of_same s1).trans k1⟩ ?_ ?_
    · rintro i σ H2 hi ⟨cs, left, x1, x2, rfl, hp2, cl, csm, cok, l0, l1, R2, k2⟩
      -- most
      refine ⟨_, rfl, _, _, rfl, rfl, (by show 4 ≤ sizeLine; decide), fun q hq => ?_⟩
      have s3 := same_new (o := HO.lst [V.int 1, V.int 5, V.int 30, V.int (left + 1)]) hq
      have nqr := R2.ne hq
      refine ⟨_, rfl, r, 4, rfl, R2.keep s3, by decide, by decide, fun z H3 z0 z1 R3 k3 => ?_⟩
      obtain ⟨mo, emo, mo0, mo1⟩ : ∃ mo : Int, atI [V.int 1, V.int 5, V.int 30, V.int (left + 1)] z = some (.int mo) ∧ 0 < mo ∧ mo ≤ 301 := by
        have : z = 0 ∨ z = 1 ∨ z = 2 ∨ z = 3 := by omega
        rcases this with rfl | rfl | rfl | rfl
        · exact ⟨1, rfl, by decide, by decide⟩
        · exact ⟨5, rfl, by decide, by decide⟩
        · exact ⟨30, rfl, by decide, by decide⟩
        · exact ⟨left + 1, rfl, by omega, by omega⟩
      refine ⟨_, _, _, _, rfl, rfl, SqL.of (k3 _ _ upd_same nqr), emo, ?_⟩
      have hp3 := k3 _ _ (s3 _ _ hp2) npr
      -- counts.append(draw(reel, min(most, left + 1)))
      refine ⟨_, rfl, .inl ⟨rfl, _, SqL.of hp3⟩, _, rfl, _, rfl, _, rfl, _, _, rfl, rfl, _, _, rfl, r, _, rfl, R3, (by split <;> omega), (by split <;> omega), fun d H4 d0 d1 R4 k4 => ?_⟩
      have dl : d ≤ left := by
        have : (if left + 1 < mo then left + 1 else mo) ≤ left + 1 := by split <;> omega
        omega
      have hp4 := k4 _ _ hp3 npr
      refine ⟨p, _, _, rfl, rfl, hp4, by rw [List.length_map, sizeLine_eq]; omega, ?_⟩
      have k5 : Kp p H4 (upd H4 p (.lst (cs.map V.int ++ [V.int d]))) := Kp.set
      -- left = left - counts[-1]
      refine ⟨_, rfl, _, rfl, _, rfl, _, _, _, _, rfl, rfl, SqL.of upd_same, atI_last _ _, _, _, rfl, rfl, ?_⟩
      refine ⟨cs ++ [d], left - d, _, _, rfl, ?_, by simp [cl], by rw [List.sum_append]; simp; omega, fun c hc => ?_, by omega, by omega, R4.kp k5 npr.symm, ?_⟩
      · rw [upd_same]; simp
      · rcases List.mem_append.mp hc with hc | hc
        · exact cok c hc
        · have : c = d := by simpa using hc
          omega
      · intro b o e n
        exact k5 _ _ (k4 _ _ (k3 _ _ (s3 _ _ (k2 _ _ e n)) n) n) (ne_of_none e hp)
    · rintro σ H2 ⟨cs, left, x1, x2, rfl, hp2, cl, csm, cok, l0, l1, R2, k2⟩
      exact ⟨_, rfl, k p cs H2 hp hp2 ⟨by omega, cok⟩ (by omega) R2 k2⟩
theorem oth_mem {l : List Int} {h z : Int} (m : z ∈ l.filter fun x => !decide (x = h)) : z ∈ l ∧ z ≠ h := by
  obtain ⟨a, b⟩ := List.mem_filter.mp m
  exact ⟨a, by simpa using b⟩
def spSome (K : PySem.W.Frag) : Sp := fun vs H Q _ => ∃ (r c : Addr) (cs : List Int) (many : Int), vs = [.ref r, .ref c, .int many] ∧ ReelOk H r ∧ H c = some (.lst (cs.map V.int)) ∧ c ≠ r ∧ CsOk cs ∧ 0 ≤ many ∧ many ≤ 60 ∧ ∀ (a : Addr) (ns : List Nt) (H' : Hp), H a = none → NtsAt H' a ns → ns.length ≤ 100 → (∀ x ∈ ns, NtOk cs x) → ReelOk H' r → Kp r H H' → Q (.ref a) H'
theorem ok_some {f : Addr} {fd : FuncData} (F : Fun K "_law_some_notes" "_law_some_notes" s_Lsome_notes f fd) (F_Ldraw : FnAt P w K mg base 1 "_law_draw" ["reel", "many"] (spDraw K)) (Bt : Blt mg) : FnOk P w K mg base CX0 2 f fd ["reel", "counts", "many"] (spSome K) := by
  refine F.ok sc_Lsome_notes (fun vs H Q E h => ?_) (fun cdv A outer s H vs Q E hr h => ?_)
  · obtain ⟨r, c, cs, many, rfl, _⟩ := h
    rfl
  · obtain ⟨r, c, cs, many, rfl, R0, hc, ncr, ok, mn0, mn1, k⟩ := h
    refine ⟨_, (pss_cons (ps_setC (i := 3) rfl sc_Lsome_notes.nd rfl (Or.inl rfl) (N := ["hand", "counts"]) (own := ["hand"]) (caps := [1]) (CompScope.of (by kernel_rfl)) (pi_range1 (by rfl) Bt.b_range (pa_cons (pe_callB (call_len_seqK (K := K) rfl) (by rfl) Bt.b_len bt_len (pa_cons (pv 1) pa_nil)) pa_nil)) (fun _ _ _ _ => (pg_name (i := 0) (show List.Nodup (["hand", "counts"] : List Str) by decide +kernel) rfl (Or.inl rfl))) (fun _ _ _ _ => (pts_one (pt_cmpR op_gt (pe_ix (ix_listK (K := K) rfl) (pv 1) (pv 0) (fun _ _ => rfl)) pe_int (nomark _)))) (fun _ _ _ _ => (pv 0)))
      (pss_cons (ps_set (i := 4) sc_Lsome_notes.nd rfl (Or.inl rfl) (pe_lst pa_nil))
      (pss_cons (ps_for PassesOwn.never rfl (pi_range1 (by rfl) Bt.b_range (pa_cons (pe_op op_mul (pv 2) (pe_callTy call_int1 (by rfl) Bt.b_int bt_int (pa_cons (pe_cmpR op_gt (pe_callB (call_len_seqK (K := K) rfl) (by rfl) Bt.b_len bt_len (pa_cons (pv 3) pa_nil)) pe_int (nomark _)) pa_nil))) pa_nil)) (pg_name (i := 5) sc_Lsome_notes.nd rfl (Or.inl rfl))
      (pss_cons (ps_set (i := 6) sc_Lsome_notes.nd rfl (Or.inr rfl) (pe_ix (ix_listK (K := K) rfl) (pv 3) (pe_fn F_Ldraw (hr.mono (by decide)) (by rfl) (pa_cons (pv 0) (pa_cons (pe_callB (call_len_seqK (K := K) rfl) (by rfl) Bt.b_len bt_len (pa_cons (pv 3) pa_nil)) pa_nil))) (fun _ _ => rfl)))
      (pss_cons (ps_setC (i := 7) rfl sc_Lsome_notes.nd rfl (Or.inl rfl) (N := ["other", "hand"]) (own := ["other"]) (caps := [6]) (CompScope.of (by kernel_rfl)) (pi_listK (K := K) rfl (pv 3)) (fun _ _ _ _ => (pg_name (i := 0) (show List.Nodup (["other", "hand"] : List Str) by decide +kernel) rfl (Or.inl rfl))) (fun _ _ _ _ => (pts_one (pt_cmpR op_ne (pv 0) (pv 1) (nomark _)))) (fun _ _ _ _ => (pv 0)))
      (pss_cons (ps_set (i := 8) sc_Lsome_notes.nd rfl (Or.inl rfl) (pe_ix (ix_listK (K := K) rfl) (pv 7) (pe_fn F_Ldraw (hr.mono (by decide)) (by rfl) (pa_cons (pv 0) (pa_cons (pe_callB (call_len_seqK (K := K) rfl) (by rfl) Bt.b_len bt_len (pa_cons (pv 7) pa_nil)) pa_nil))) (fun _ _ => rfl)))
      (pss_one (ps_expr (pe_appendK (K := K) rfl (pv 4) (pa_cons (pe_tup (pa_cons (pv 6) (pa_cons (pe_fn F_Ldraw (hr.mono (by decide)) (by rfl) (pa_cons (pv 0) (pa_cons (pe_ix (ix_listK (K := K) rfl) (pv 1) (pv 6) (fun _ _ => rfl)) pa_nil))) (pa_cons (pv 8) (pa_cons (pe_fn F_Ldraw (hr.mono (by decide)) (by rfl) (pa_cons (pv 0) (pa_cons (pe_ix (ix_listK (K := K) rfl) (pv 1) (pv 8) (fun _ _ => rfl)) pa_nil))) pa_nil))))) pa_nil))))))))
      (pss_one (ps_ret (pv 4)))))), ?_⟩
    have c8 := ok.1
    refine ⟨_, rfl, c, _, rfl, .inl (SqL.of hc), _, rfl, by rw [List.length_map]; omega, by rw [List.length_map]; omega, fun D hD => ?_⟩
    have lnm : (((cs.map V.int).length : Nat) : Int).toNat = cs.length := by simp
    rw [lnm]
    refine comp_valR (fun (i : Nat) => if gI cs (i : Int) > 0 then some (V.int (0 + (i : Int))) else none) hD (by omega) (fun j H3 G F hj s3 kG kF => ?_) (fun H3 s3 e3 => ?_)
    · refine ⟨_, rfl, _, rfl, _, _, _, _, rfl, rfl, SqL.of (s3 _ _ hc), (atI_gI (h := 0 + (j : Int)) (by omega) (by omega)), _, _, rfl, rfl, _, rfl, ?_⟩
      have ej : (0 + (j : Int)) = (j : Int) := by omega
      rw [ej]
      refine ite2 (fun q => ?_) (fun q => ?_)
      · have q := of_decide_eq_true q
        refine ⟨_, rfl, kF _ H3 (Same.refl _) ?_⟩
        rw [if_pos q, ej]
      · have q : ¬ gI cs (j : Int) > 0 := fun z => q (decide_eq_true z)
        exact kG H3 (Same.refl _) (if_neg q)
    rw [pos_map] at e3
    have R3 := R0.keep s3
    have nDr := R0.ne hD
    have p8 := pos_len cs
    refine ⟨(by show 0 ≤ sizeLine; decide), fun a ha => ?_⟩
    have s4 := same_new (o := HO.lst []) ha
    have ha0 : H a = none := s3.free ha
    have nar := R0.ne ha0
    have s34 := s3.trans s4
    have e4 := s4 _ _ e3
    have nDa : D ≠ a := ne_of_none e3 ha
    have nca : c ≠ a := ne_of_none hc ha0
    refine ⟨_, rfl, _, rfl, D, _, rfl, .inl (SqL.of e4), _, _, rfl, rfl, Or.inr ⟨_, rfl, _, _, rfl, rfl, .inl ⟨by omega, by omega⟩, ?_⟩⟩
    refine ⟨_, rfl, ?_, ?_, ?_⟩
    · split <;> omega
    · split <;> omega
    refine for_range (lo := 0) (n := _) (fun i σ H5 => ∃ (ns : List Nt) (x1 x2 x3 x4 : Option V), σ = [some (.ref r), some (.ref c), some (.int many), some (.ref D), some (.ref a), x1, x2, x3, x4] ∧ H5 c = some (.lst (cs.map V.int)) ∧ H5 D = some (.lst ((pos cs).map V.int)) ∧ NtsAt H5 a ns ∧ ns.length = i ∧ (∀ x ∈ ns, NtOk cs x) ∧ ReelOk H5 r ∧ Kp r H H5)
      ⟨[], none, none, none, none, rfl, s34 _ _ hc, e4, ⟨[], upd_same, by simp only [List.map_nil, Dats]⟩, rfl, fun x hx => (by cases hx), R3.keep s4, .of_same s34⟩ ?_ ?_
    · rintro i σ H5 hi ⟨ns, x1, x2, x3, x4, rfl, hc5, hD5, N5, nl, nok, R5, k5⟩
      have hp2 : 1 < (pos cs).length ∧ i < 60 := by
        by_cases q : (((pos cs).map V.int).length : Int) > 1
        · rw [decide_eq_true q, if_pos rfl] at hi
          rw [List.length_map] at q
          exact ⟨by omega, by omega⟩
        · rw [decide_eq_false q, if_neg (by decide)] at hi
          simp at hi
      obtain ⟨hp2, hi60⟩ := hp2
      -- hand
      refine ⟨_, rfl, _, rfl, _, rfl, D, _, rfl, .inl (SqL.of hD5), r, _, rfl, R5, by rw [List.length_map]; omega, by rw [List.length_map]; omega, fun z H6 z0 z1 R6 k6 => ?_⟩
      rw [List.length_map] at z1
      have hD6 := k6 _ _ hD5 nDr
      obtain ⟨m, rfl⟩ := Int.eq_ofNat_of_zero_le z0
      have hm : m < (pos cs).length := by omega
      have eh : (pos cs)[m]? = some (pos cs)[m] := by simp [hm]
      have hmem := mem_pos (List.mem_of_getElem? eh)
      have hmm := List.mem_of_getElem? eh
      generalize (pos cs)[m] = h at eh hmem hmm
      obtain ⟨h0, h1, h2⟩ := hmem
      refine ⟨_, _, _, _, rfl, rfl, SqL.of hD6, atI_nat (v := V.int h) (by rw [List.getElem?_map, eh]; rfl), ?_⟩
      -- others
      refine ⟨_, rfl, D, rfl, ⟨_, SqL.of hD6⟩, fun D2 hD2 => ?_⟩
      refine comp_val (K := K) (fun i => ((pos cs)[i]?).bind fun x => if !decide (x = h) then some (V.int x) else none) hD2 (SqL.of hD6) (by rw [List.length_map]; omega) (fun j v H7 G F hj s7 kG kF => ?_) (fun H7 s7 e7 => ?_)
      · rw [List.getElem?_map] at hj
        cases ej : (pos cs)[j]? with
        | none => rw [ej] at hj; cases hj
        | some y =>
          rw [ej] at hj
          cases hj
          simp only [ej, Option.bind_some] at kG kF
          refine ⟨_, rfl, _, rfl, rfl, _, rfl, ?_⟩
          by_cases e : y = h
          · rw [show decide (V.int y = V.int h) = true by simp [e]]
            exact iteF (kG H7 (Same.refl _) (by simp [e]))
          · rw [show decide (V.int y = V.int h) = false by simp [e]]
            exact iteT ⟨_, rfl, kF _ H7 (Same.refl _) (by simp [e])⟩
      rw [List.length_map, fm_filter] at e7
      have R7 := R6.keep s7
      have nD2r := R6.ne hD2
      have olen : 0 < ((pos cs).filter fun x => !decide (x = h)).length := by
        have nd := pos_nodup cs
        obtain ⟨z, hz, hne⟩ : ∃ z ∈ pos cs, z ≠ h := by
          by_cases e0 : (pos cs)[0]'(by omega) = h
          · refine ⟨(pos cs)[1]'(by omega), List.getElem_mem _, fun z => ?_⟩
            have := List.pairwise_iff_getElem.mp nd 0 1 (by omega) (by omega) (by omega)
            exact this (e0.trans z.symm)
          · exact ⟨(pos cs)[0]'(by omega), List.getElem_mem _, e0⟩
        exact List.length_pos_of_mem (List.mem_filter.mpr ⟨hz, by simp [hne]⟩)
      have olen8 : ((pos cs).filter fun x => !decide (x = h)).length ≤ 8 := Nat.le_trans (List.length_filter_le ..) (by omega)
      refine ⟨_, rfl, _, rfl, _, rfl, D2, _, rfl, .inl (SqL.of e7), r, _, rfl, R7, by rw [List.length_map]; omega, by rw [List.length_map]; omega, fun z H8 z0 z1 R8 k8 => ?_⟩
      rw [List.length_map] at z1
      obtain ⟨m2, rfl⟩ := Int.eq_ofNat_of_zero_le z0
      have hm2 : m2 < ((pos cs).filter fun x => !decide (x = h)).length := by omega
      have eo : ((pos cs).filter fun x => !decide (x = h))[m2]? = some ((pos cs).filter fun x => !decide (x = h))[m2] := by simp [hm2]
      obtain ⟨om, one⟩ := oth_mem (List.mem_of_getElem? eo)
      generalize ((pos cs).filter fun x => !decide (x = h))[m2] = o at eo om one
      obtain ⟨o0, o1, o2⟩ := mem_pos om
      refine ⟨_, _, _, _, rfl, rfl, SqL.of (k8 _ _ e7 nD2r), atI_nat (v := V.int o) (by rw [List.getElem?_map, eo]; rfl), ?_⟩
      have tp8 : ∀ a xs, H5 a = some (HO.tup xs) → H8 a = some (HO.tup xs) := fun a xs e => by
        obtain ⟨y5, l5⟩ := R5.lst
        obtain ⟨y7, l7⟩ := R7.lst
        exact k8.tups l7 _ _ (s7.tups _ _ (k6.tups l5 _ _ e))
      have k58 : Kp r H5 H8 := (k6.trans (.of_same s7)).trans k8
      have N8 := N5.kp tp8 k58 nar
      have hc8 := k58 _ _ hc5 ncr
      obtain ⟨vs8, ha8, d8⟩ := id N8
      have gh := ok.gI h
      have go := ok.gI o
      -- found.append((hand, draw(counts[hand]), other, draw(counts[other])))
      refine ⟨_, rfl, .inl ⟨rfl, _, SqL.of ha8⟩, _, rfl, _, rfl, _, rfl, _, rfl, _, _, _, _, rfl, rfl, SqL.of hc8, atI_gI h0 h1, r, _, rfl, R8, h2, by omega, fun u H9 u0 u1 R9 k9 => ?_⟩
      have hc9 := k9 _ _ hc8 ncr
      refine ⟨_, rfl, _, rfl, _, rfl, _, rfl, _, _, _, _, rfl, rfl, SqL.of hc9, atI_gI o0 o1, r, _, rfl, R9, o2, by omega, fun v H10 v0 v1 R10 k10 => ?_⟩
      refine ⟨(by show 4 ≤ sizeLine; decide), fun t ht => ?_⟩
      have st := same_new (o := HO.tup [V.int h, V.int u, V.int o, V.int v]) ht
      obtain ⟨y8, l8⟩ := R8.lst
      obtain ⟨y9, l9⟩ := R9.lst
      have N10 := ((N8.kp (k9.tups l8) k9 nar).kp (k10.tups l9) k10 nar).same st
      obtain ⟨vs, ha10, d10⟩ := id N10
      have vl : vs.length = ns.length := by rw [d10.length, List.length_map]
      refine ⟨a, vs, _, rfl, rfl, ha10, by rw [sizeLine_eq]; omega, ?_⟩
      have kA : Kp a (upd H10 t (.tup [V.int h, V.int u, V.int o, V.int v])) (upd (upd H10 t (.tup [V.int h, V.int u, V.int o, V.int v])) a (.lst (vs ++ [V.ref t]))) := Kp.set
      have tA := kA.tups ha10
      have k511 : Kp r H5 (upd H10 t (.tup [V.int h, V.int u, V.int o, V.int v])) := ((k58.trans k9).trans k10).trans (.of_same st)
      refine ⟨ns ++ [(h, u, o, v)], _, _, _, _, rfl, kA _ _ (k511 _ _ hc5 ncr) nca, kA _ _ (k511 _ _ hD5 nDr) nDa, ⟨_, upd_same, ?_⟩, by simp [nl], fun x hx => ?_, (R10.keep st).kp kA nar.symm, ?_⟩
      · rw [List.map_append]
        exact Dats.append (Dats.keep tA _ (imms_map _ imm_nD _) d10) (dats1 (dat_nt (x := (h, u, o, v)) (tA _ _ upd_same)))
      · rcases List.mem_append.mp hx with hx | hx
        · exact nok x hx
        · have : x = (h, u, o, v) := by simpa using hx
          subst this
          exact ⟨⟨h0, h1⟩, ⟨u0, u1⟩, ⟨o0, o1⟩, ⟨v0, v1⟩, one.symm⟩
      · intro b w e n
        exact kA _ _ (k511 _ _ (k5 _ _ e n) n) (ne_of_none e ha0)
    · rintro σ H5 ⟨ns, x1, x2, x3, x4, rfl, hc5, hD5, N5, nl, nok, R5, k5⟩
      refine ⟨_, rfl, k a ns H5 ha0 N5 ?_ nok R5 k5⟩
      rw [nl]
      split <;> omega
def spRecord (K : PySem.W.Frag) : Sp := fun vs H Q _ => ∃ (r : Addr), vs = [.ref r] ∧ ReelOk H r ∧ ∀ (t c a : Addr) (cs : List Int) (ns : List Nt) (H' : Hp), H t = none → H c = none → H a = none → RecAt H' t c a cs ns → RecOk cs ns → cs.sum ≤ 300 → ReelOk H' r → Kp r H H' → Q (.ref t) H'
theorem ok_record {f : Addr} {fd : FuncData} (F : Fun K "_law_record" "_law_record" s_Lrecord f fd) (F_Ldraw : FnAt P w K mg base 1 "_law_draw" ["reel", "many"] (spDraw K)) (F_Lcounts : FnAt P w K mg base 2 "_law_counts" ["reel"] (spCounts K)) (F_Lsome_notes : FnAt P w K mg base 2 "_law_some_notes" ["reel", "counts", "many"] (spSome K)) (Bt : Blt mg) : FnOk P w K mg base CX0 3 f fd ["reel"] (spRecord K) := by
  refine F.ok sc_Lrecord (fun vs H Q E h => ?_) (fun cdv A outer s H vs Q E hr h => ?_)
  · obtain ⟨r, rfl, _⟩ := h
    rfl
  · obtain ⟨r, rfl, R0, k⟩ := h
    refine ⟨_, (pss_cons (ps_set (i := 1) sc_Lrecord.nd rfl (Or.inl rfl) (pe_fn F_Ldraw (hr.mono (by decide)) (by rfl) (pa_cons (pv 0) (pa_cons (pe_ix (ix_listK (K := K) rfl) (pe_lst (pa_cons pe_int (pa_cons pe_int (pa_cons pe_int (pa_cons pe_int (pa_cons pe_int pa_nil)))))) (pe_fn F_Ldraw (hr.mono (by decide)) (by rfl) (pa_cons (pv 0) (pa_cons pe_int pa_nil))) (fun _ _ => rfl)) pa_nil))))
      (pss_cons (ps_set (i := 2) sc_Lrecord.nd rfl (Or.inl rfl) (pe_fn F_Lcounts (hr.mono (by decide)) (by rfl) (pa_cons (pv 0) pa_nil)))
      (pss_one (ps_ret (pe_tup (pa_cons (pv 2) (pa_cons (pe_fn F_Lsome_notes (hr.mono (by decide)) (by rfl) (pa_cons (pv 0) (pa_cons (pv 2) (pa_cons (pv 1) pa_nil)))) pa_nil))))))), ?_⟩
    refine ⟨_, rfl, (by show 5 ≤ sizeLine; decide), fun p hp => ?_⟩
    have s1 := same_new (o := HO.lst [V.int 4, V.int 4, V.int 13, V.int 13, V.int 61]) hp
    have npr := R0.ne hp
    refine ⟨_, rfl, r, 5, rfl, R0.keep s1, by decide, by decide, fun z H1 z0 z1 R1 k1 => ?_⟩
    obtain ⟨mo, emo, mo0, mo1⟩ : ∃ mo : Int, atI [V.int 4, V.int 4, V.int 13, V.int 13, V.int 61] z = some (.int mo) ∧ 0 < mo ∧ mo ≤ 61 := by
      have : z = 0 ∨ z = 1 ∨ z = 2 ∨ z = 3 ∨ z = 4 := by omega
      rcases this with rfl | rfl | rfl | rfl | rfl
      · exact ⟨4, rfl, by decide, by decide⟩
      · exact ⟨4, rfl, by decide, by decide⟩
      · exact ⟨13, rfl, by decide, by decide⟩
      · exact ⟨13, rfl, by decide, by decide⟩
      · exact ⟨61, rfl, by decide, by decide⟩
    refine ⟨_, _, _, _, rfl, rfl, SqL.of (k1 _ _ upd_same npr), emo, r, mo, rfl, R1, mo0, by omega, fun many H2 y0 y1 R2 k2 => ?_⟩
    have kk2 : Kp r H H2 := ((Kp.of_same s1).trans k1).trans k2
    refine ⟨_, rfl, r, rfl, R2, fun c cs H3 hc0 hc ok sum3 R3 k3 => ?_⟩
    have ncr := R2.ne hc0
    have fc : H c = none := Kp.new kk2 hc0 R2.at
    have kk3 := kk2.trans k3
    refine ⟨_, rfl, _, rfl, _, rfl, _, rfl, r, c, cs, many, rfl, R3, hc, ncr, ok, y0, by omega, fun a ns H4 ha0 N4 nl nok R4 k4 => ?_⟩
    have fa : H a = none := Kp.new kk3 ha0 R3.at
    have kk4 := kk3.trans k4
    refine ⟨(by show 2 ≤ sizeLine; decide), fun t ht => ?_⟩
    have st := same_new (o := HO.tup [V.ref c, V.ref a]) ht
    exact k t c a cs ns _ (Kp.new kk4 ht R4.at) fc fa ⟨upd_same, st _ _ (k4 _ _ hc ncr), N4.same st⟩ ⟨ok, nl, nok⟩ sum3 (R4.keep st) (kk4.trans (.of_same st))

/-! ### texts of records -/
def num (i : Int) : Str := Str.ofString (toString i)
def nT (x : Nt) : Str := num x.1 ++ Str.ofString "." ++ num x.2.1 ++ Str.ofString " " ++ num x.2.2.1 ++ Str.ofString "." ++ num x.2.2.2
def rT (cs : List Int) (ns : List Nt) : Str := Str.ofString "counts" ++ cat (cs.map fun c => Str.ofString " " ++ num c) ++ cat (ns.map fun x => Str.ofString "\n" ++ nT x)
theorem cat_len : ∀ xs : List Str, (cat xs).length = (xs.map (·.length)).sum
  | [] => rfl
  | x :: xs => by rw [cat, Str.length_append, cat_len xs, List.map_cons, List.sum_cons]
theorem sum_bound {α : Type} (f : α → Nat) (b : Nat) : ∀ l : List α, (∀ x ∈ l, f x ≤ b) → (l.map f).sum ≤ b * l.length
  | [], _ => by simp
  | x :: l, h => by
    have a := h x (by simp)
    have ih := sum_bound f b l fun y hy => h y (by simp [hy])
    rw [List.map_cons, List.sum_cons, List.length_cons, Nat.mul_add]
    omega
theorem len_dot : (Str.ofString ".").length = 1 := rfl
theorem len_sp : (Str.ofString " ").length = 1 := rfl
theorem len_nl : (Str.ofString "\n").length = 1 := rfl
theorem len_counts : (Str.ofString "counts").length = 6 := rfl
theorem NtOk.small {cs : List Int} {x : Nt} (cok : CsOk cs) (h : NtOk cs x) : (0 ≤ x.1 ∧ x.1 ≤ 1000) ∧ (0 ≤ x.2.1 ∧ x.2.1 ≤ 1000) ∧ (0 ≤ x.2.2.1 ∧ x.2.2.1 ≤ 1000) ∧ (0 ≤ x.2.2.2 ∧ x.2.2.2 ≤ 1000) := by
  obtain ⟨⟨a0, a1⟩, ⟨b0, b1⟩, ⟨c0, c1⟩, ⟨d0, d1⟩, _⟩ := h
  have l := cok.1
  have g1 := cok.gI x.1
  have g2 := cok.gI x.2.2.1
  refine ⟨⟨a0, by omega⟩, ⟨b0, by omega⟩, ⟨c0, by omega⟩, ⟨d0, by omega⟩⟩
theorem nT_len {x : Nt} (h : (0 ≤ x.1 ∧ x.1 ≤ 1000) ∧ (0 ≤ x.2.1 ∧ x.2.1 ≤ 1000) ∧ (0 ≤ x.2.2.1 ∧ x.2.2.1 ≤ 1000) ∧ (0 ≤ x.2.2.2 ∧ x.2.2.2 ≤ 1000)) : (nT x).length ≤ 19 := by
  obtain ⟨⟨a0, a1⟩, ⟨b0, b1⟩, ⟨c0, c1⟩, ⟨d0, d1⟩⟩ := h
  unfold nT num
  simp only [Str.length_append, len_dot, len_sp]
  have := num_len' a0 a1
  have := num_len' b0 b1
  have := num_len' c0 c1
  have := num_len' d0 d1
  omega
theorem row_len {cs : List Int} (ok : CsOk cs) : (Str.ofString "counts" ++ cat (cs.map fun c => Str.ofString " " ++ num c)).length ≤ 46 := by
  rw [Str.length_append, cat_len, List.map_map, len_counts]
  have := sum_bound ((fun s : Str => s.length) ∘ fun c : Int => Str.ofString " " ++ num c) 5 cs fun c hc => by
    have q := ok.2 c hc
    have := num_len' (i := c) q.1 (by omega)
    simp only [Function.comp, Str.length_append, len_sp, num]
    omega
  have l := ok.1
  omega
theorem notes_len {cs : List Int} {ns : List Nt} (ok : RecOk cs ns) : ((ns.map nT).map (·.length)).sum ≤ 19 * ns.length := by
  rw [List.map_map]
  exact sum_bound ((fun s : Str => s.length) ∘ nT) 19 ns fun x hx => nT_len ((ok.2.2 x hx).small ok.1)
theorem whole_text (cs : List Int) (ns : List Nt) : Txt.join (Str.ofString "\n") ((Str.ofString "counts" ++ cat (cs.map fun c => Str.ofString " " ++ num c)) :: ns.map nT) = rT cs ns := by
  rw [glued_cons, List.map_map]
  rfl
theorem whole_size {cs : List Int} {ns : List Nt} (ok : RecOk cs ns) : ((((Str.ofString "counts" ++ cat (cs.map fun c => Str.ofString " " ++ num c)) :: ns.map nT).map (·.length)).sum + ((Str.ofString "counts" ++ cat (cs.map fun c => Str.ofString " " ++ num c)) :: ns.map nT).length * (Str.ofString "\n").length ≤ 16777216) := by
  have a := row_len ok.1
  have b := notes_len ok
  have c := ok.2.1
  rw [List.map_cons, List.sum_cons, List.length_cons, List.length_map, len_nl]
  omega
def spLtext (K : PySem.W.Frag) : Sp := fun vs H Q _ => ∃ (t c a : Addr) (cs : List Int) (ns : List Nt), vs = [.ref t] ∧ RecAt H t c a cs ns ∧ RecOk cs ns ∧ ∀ H', Same H H' → Q (.str (rT cs ns)) H'
theorem ok_Ltext {f : Addr} {fd : FuncData} (F : Fun K "_law_text" "_law_text" s_Ltext f fd) (Bt : Blt mg) : FnOk P w K mg base CX0 1 f fd ["record"] (spLtext K) := by
  refine F.ok sc_Ltext (fun vs H Q E h => ?_) (fun cdv A outer s H vs Q E hr h => ?_)
  · obtain ⟨t, c, a, cs, ns, rfl, _⟩ := h
    rfl
  · obtain ⟨t, c, a, cs, ns, rfl, ⟨ht, hc, hN⟩, ok, k⟩ := h
    obtain ⟨vs, ha, dv⟩ := id hN
    have vl : vs.length = ns.length := by rw [dv.length, List.length_map]
    have nl := ok.2.1
    have c8 := ok.1.1
    refine ⟨_, (pss_cons (ps_set (i := 1) sc_Ltext.nd rfl (Or.inl rfl) (pe_lst (pa_cons (pe_op op_add_str pe_str (pe_bmK (K := K) rfl PySem.F.plainAttrs_str PySem.F.slot_str_join PySem.F.type_str_join (mt_joinK (K := K) rfl) pe_str (pa_cons (pe_comp rfl (N := ["count"]) (own := ["count"]) (caps := []) (CompScope.of (by kernel_rfl)) (pi_listK (K := K) rfl (pe_ix (ix_tupK (K := K) rfl) (pv 0) pe_int (fun _ _ => rfl))) (fun _ _ _ _ => (pg_name (i := 0) (show List.Nodup (["count"] : List Str) by decide +kernel) rfl (Or.inl rfl))) (fun _ _ _ _ => pts_nil) (fun _ _ _ _ => (pe_op op_add_str pe_str (pe_callTy call_str_int (by rfl) Bt.b_str bt_str (pa_cons (pv 0) pa_nil))))) pa_nil))) pa_nil)))
      (pss_cons (ps_for PassesOwn.never rfl (pi_listK (K := K) rfl (pe_ix (ix_tupK (K := K) rfl) (pv 0) pe_int (fun _ _ => rfl))) (pg_tupK (K := K) (n := 4) rfl rfl (pgs_cons (pg_name (i := 2) sc_Ltext.nd rfl (Or.inl rfl)) (pgs_cons (pg_name (i := 3) sc_Ltext.nd rfl (Or.inl rfl)) (pgs_cons (pg_name (i := 4) sc_Ltext.nd rfl (Or.inl rfl)) (pgs_cons (pg_name (i := 5) sc_Ltext.nd rfl (Or.inl rfl)) pgs_nil)))))
      (pss_one (ps_expr (pe_appendK (K := K) rfl (pv 1) (pa_cons (pe_op op_add_str (pe_op op_add_str (pe_op op_add_str (pe_op op_add_str (pe_op op_add_str (pe_op op_add_str (pe_callTy call_str_int (by rfl) Bt.b_str bt_str (pa_cons (pv 2) pa_nil)) pe_str) (pe_callTy call_str_int (by rfl) Bt.b_str bt_str (pa_cons (pv 3) pa_nil))) pe_str) (pe_callTy call_str_int (by rfl) Bt.b_str bt_str (pa_cons (pv 4) pa_nil))) pe_str) (pe_callTy call_str_int (by rfl) Bt.b_str bt_str (pa_cons (pv 5) pa_nil))) pa_nil)))))
      (pss_one (ps_ret (pe_bmK (K := K) rfl PySem.F.plainAttrs_str PySem.F.slot_str_join PySem.F.type_str_join (mt_joinK (K := K) rfl) pe_str (pa_cons (pv 1) pa_nil)))))), ?_⟩
    refine ⟨rfl, _, rfl, _, _, _, _, rfl, rfl, SqT.of ht, rfl, c, rfl, ⟨_, SqL.of hc⟩, fun D hD => ?_⟩
    refine comp_val (K := K) (fun i => (cs[i]?).map fun z => V.str (Str.ofString " " ++ num z)) hD (SqL.of hc) (by rw [List.length_map]; omega) (fun i v H2 G F hi s2 kG kF => ?_) (fun H2 s2 e2 => ?_)
    · rw [List.getElem?_map] at hi
      cases ei : cs[i]? with
      | none => rw [ei] at hi; cases hi
      | some z =>
        rw [ei] at hi
        cases hi
        have q := ok.1.2 z (List.mem_of_getElem? ei)
        have nlz := num_len' (i := z) q.1 (by omega)
        exact ⟨_, rfl, z, rfl, num_log q.1 (by omega), _, _, rfl, rfl, by show (Str.ofString " ").length + (Str.ofString (toString z)).length ≤ sizeLine; rw [len_sp, sizeLine_eq]; omega, kF _ H2 (Same.refl _) (by rw [ei]; rfl)⟩
    rw [List.length_map, fm_some] at e2
    have rl := row_len ok.1
    have cl : (cat (cs.map fun c => Str.ofString " " ++ num c)).length ≤ 40 := by
      rw [Str.length_append, len_counts] at rl; omega
    refine ⟨_, D, cs.map (fun z => Str.ofString " " ++ num z), rfl, rfl, SqL.of (by rw [e2, List.map_map]; rfl), ?_, ?_⟩
    · rw [cat_len] at cl
      show _ + _ * 0 ≤ _
      omega
    have ecat : Txt.join (Str.ofString "") (cs.map fun z => Str.ofString " " ++ num z) = cat (cs.map fun c => Str.ofString " " ++ num c) := join_empty _
    rw [ecat]
    refine ⟨_, _, rfl, rfl, by rw [len_counts, sizeLine_eq]; omega, ?_⟩
    refine ⟨(by show 1 ≤ sizeLine; decide), fun p hp => ?_⟩
    have s3 := same_new (o := HO.lst [V.str (Str.ofString "counts" ++ cat (cs.map fun c => Str.ofString " " ++ num c))]) hp
    have s13 := s2.trans s3
    have hp0 : H p = none := s2.free hp
    refine ⟨_, rfl, _, _, _, _, rfl, rfl, SqT.of (s13 _ _ ht), rfl, a, rfl, ⟨_, SqL.of (s13 _ _ ha)⟩, ?_⟩
    refine for_list (K := K) (a := a) (xs := vs) (fun i σ H4 => ∃ (x1 x2 x3 x4 : Option V), σ = [some (.ref t), some (.ref p), x1, x2, x3, x4] ∧ H4 p = some (.lst (((Str.ofString "counts" ++ cat (cs.map fun c => Str.ofString " " ++ num c)) :: (ns.take i).map nT).map V.str)) ∧ Same H H4)
      ⟨none, none, none, none, rfl, upd_same, s13⟩ (fun i σ H4 _ ⟨_, _, _, _, _, _, sm⟩ => SqL.of (sm _ _ ha)) ?_ ?_
    · rintro i v σ H4 hi ⟨x1, x2, x3, x4, rfl, hp4, s4⟩
      obtain ⟨x, q, ex, rfl, hx⟩ := nts_get dv hi
      have il : i < vs.length := (List.getElem?_eq_some_iff.mp hi).1
      have tk : ns.take (i + 1) = ns.take i ++ [x] := by rw [List.take_add_one, ex]; rfl
      obtain ⟨⟨a0, a1⟩, ⟨b0, b1⟩, ⟨c0, c1⟩, ⟨d0, d1⟩⟩ := (ok.2.2 x (List.mem_of_getElem? ex)).small ok.1
      have la := num_len' a0 a1
      have lb := num_len' b0 b1
      have lc := num_len' c0 c1
      have ld := num_len' d0 d1
      refine ⟨q, _, rfl, SqT.of (s4 _ _ hx), rfl, _, _, rfl, _, _, rfl, _, _, rfl, _, _, rfl, rfl, ?_⟩
      have sz : sizeLine = 16777216 := sizeLine_eq
      refine ⟨_, rfl, .inl ⟨rfl, _, SqL.of hp4⟩, _, rfl, _, rfl, num_log a0 a1, _, _, rfl, rfl, (by rw [len_dot]; omega), _, rfl, _, rfl, num_log b0 b1, _, _, rfl, rfl, (by simp only [Str.length_append, len_dot]; omega), _, _, rfl, rfl, (by simp only [Str.length_append, len_dot, len_sp]; omega), _, rfl, _, rfl, num_log c0 c1, _, _, rfl, rfl, (by simp only [Str.length_append, len_dot, len_sp]; omega), _, _, rfl, rfl, (by simp only [Str.length_append, len_dot, len_sp]; omega), _, rfl, _, rfl, num_log d0 d1, _, _, rfl, rfl, (by simp only [Str.length_append, len_dot, len_sp]; omega), ?_⟩
      have ln : (ns.take i).length ≤ ns.length := by rw [List.length_take]; omega
      refine ⟨p, _, _, rfl, rfl, hp4, by rw [List.length_map, List.length_cons, List.length_map]; omega, ?_⟩
      refine ⟨_, _, _, _, rfl, ?_, fun b o e => Kp.set _ _ (s4 _ _ e) (ne_of_none e hp0)⟩
      show (upd H4 p _) p = _
      rw [upd_same, tk]
      simp only [List.map_append, List.map_cons, List.map_nil, List.cons_append]
      rfl
    · rintro σ H4 ⟨x1, x2, x3, x4, rfl, hp4, s4⟩
      rw [vl, List.take_length] at hp4
      refine ⟨rfl, _, rfl, _, p, _, rfl, rfl, SqL.of hp4, whole_size ok, ?_⟩
      rw [whole_text]
      exact k H4 s4

/-! ### whole numbers -/
def inP (i : Int) (n : Nat) : Prop := 0 ≤ i ∧ i < (n : Int)
instance (i : Int) (n : Nat) : Decidable (inP i n) := inferInstanceAs (Decidable (_ ∧ _))
def spWh (K : PySem.W.Frag) : Sp := fun vs H Q _ => ∃ i : Int, vs = [.int i] ∧ Q (.bl true) H
theorem ok_is_whole {f : Addr} {fd : FuncData} (F : Fun K "is_whole" "is_whole" s_is_whole f fd) (Bt : Blt mg) : FnOk P w K mg base CX0 1 f fd ["value"] (spWh K) := by
  refine F.ok sc_is_whole (fun vs H Q E h => ?_) (fun cdv A outer s H vs Q E hr h => ?_)
  · obtain ⟨i, rfl, _⟩ := h
    rfl
  · obtain ⟨i, rfl, k⟩ := h
    refine ⟨_, (pss_one (ps_ret (pe_and (pe_callB (call_isiK (K := K) (cv := .ty "int") (c := .type "int") rfl rfl) (by rfl) Bt.b_isinstance bt_isinstance (pa_cons (pv 0) (pa_cons (pe_bltn (v := .ty "int") (by rfl) Bt.b_int bt_int rfl) pa_nil))) (pe_one (pe_not (pe_callB (call_isiK (K := K) (cv := .ty "bool") (c := .type "bool") rfl rfl) (by rfl) Bt.b_isinstance bt_isinstance (pa_cons (pv 0) (pa_cons (pe_bltn (v := .ty "bool") (by rfl) Bt.b_bool bt_bool rfl) pa_nil)))))))), ?_⟩
    refine ⟨_, rfl, _, _, true, rfl, .int i, isi_int_int K, true, rfl, ?_⟩
    refine iteT ?_
    exact ⟨_, rfl, _, _, false, rfl, .int i, isi_int_bool K, false, rfl, k⟩
def spBelow (K : PySem.W.Frag) : Sp := fun vs H Q _ => ∃ (i : Int) (n : Nat), vs = [.int i, .int n] ∧ Q (.bl (decide (inP i n))) H
theorem ok_is_below {f : Addr} {fd : FuncData} (F : Fun K "is_below" "is_below" s_is_below f fd) (F_is_whole : FnAt P w K mg base 1 "is_whole" ["value"] (spWh K)) : FnOk P w K mg base CX0 2 f fd ["value", "count"] (spBelow K) := by
  refine F.ok sc_is_below (fun vs H Q E h => ?_) (fun cdv A outer s H vs Q E hr h => ?_)
  · obtain ⟨i, n, rfl, _⟩ := h
    rfl
  · obtain ⟨i, n, rfl, k⟩ := h
    refine ⟨_, (pss_one (ps_ret (pe_and (pe_fn F_is_whole (hr.mono (by decide)) (by rfl) (pa_cons (pv 0) pa_nil)) (pe_one (pe_chain op_le op_lt pe_int (pv 0) (pv 1)))))), ?_⟩
    refine ⟨_, rfl, i, rfl, true, rfl, ?_⟩
    refine iteT ?_
    refine ⟨_, rfl, _, _, rfl, rfl, _, rfl, ?_⟩
    refine ite2 (fun h0 => ?_) (fun h0 => ?_)
    · refine ⟨_, rfl, _, _, rfl, rfl, ?_⟩
      have e : decide (inP i n) = decide (i < (n : Int)) := by
        have h0 := of_decide_eq_true h0
        rw [Bool.eq_iff_iff, decide_eq_true_iff, decide_eq_true_iff]
        exact ⟨fun z => z.2, fun z => ⟨h0, z⟩⟩
      show Q (.bl (decide (i < (n : Int)))) H
      rw [← e]
      exact k
    · have e : decide (inP i n) = false := decide_eq_false fun z => h0 (decide_eq_true z.1)
      rw [← e]
      exact k

/-! ### cuts -/
def spIsNote (K : PySem.W.Frag) : Sp := fun vs H Q _ => ∃ (t : Addr) (x : Nt), vs = [.ref t] ∧ H t = some (.tup (nV x)) ∧ ∀ H', Same H H' → Q (.bl (!decide (x.1 = x.2.2.1))) H'
theorem ok_is_note {f : Addr} {fd : FuncData} (F : Fun K "is_note" "is_note" s_is_note f fd) (F_is_whole : FnAt P w K mg base 1 "is_whole" ["value"] (spWh K)) (Bt : Blt mg) : FnOk P w K mg base CX0 2 f fd ["value"] (spIsNote K) := by
  refine F.ok sc_is_note (fun vs H Q E h => ?_) (fun cdv A outer s H vs Q E hr h => ?_)
  · obtain ⟨t, x, rfl, _⟩ := h
    rfl
  · obtain ⟨t, x, rfl, ht, k⟩ := h
    have hu64 := hr.units
    refine ⟨_, (pss_cons (ps_if (PW.pt (pw_or (pt_not (pt_val (pe_callB (call_isiK (K := K) (cv := .ty "tuple") (c := .type "tuple") rfl rfl) (by rfl) Bt.b_isinstance bt_isinstance (pa_cons (pv 0) (pa_cons (pe_bltn (v := .ty "tuple") (by rfl) Bt.b_tuple bt_tuple rfl) pa_nil))))) (pw_or1 (pt_cmpR op_ne (pe_callB (call_len_seqK (K := K) rfl) (by rfl) Bt.b_len bt_len (pa_cons (pv 0) pa_nil)) pe_int (nomark _))))) (pss_one (ps_ret pe_bl)) pss_nil)
      (pss_one (ps_ret (pe_and (pe_callB (call_all_boolsK (K := K) rfl rfl) (by rfl) Bt.b_all bt_all (pa_cons (pe_comp rfl (N := ["number"]) (own := ["number"]) (caps := []) (CompScope.of (by kernel_rfl)) (pi_tupK (K := K) rfl (pv 0)) (fun _ _ _ _ => (pg_name (i := 0) (show List.Nodup (["number"] : List Str) by decide +kernel) rfl (Or.inl rfl))) (fun _ _ _ _ => pts_nil) (fun _ _ _ _ => (pe_fn F_is_whole (hr.mono (by decide)) (by rfl) (pa_cons (pv 0) pa_nil)))) pa_nil)) (pe_one (pe_cmpR op_ne (pe_ix (ix_tupK (K := K) rfl) (pv 0) pe_int (fun _ _ => rfl)) (pe_ix (ix_tupK (K := K) rfl) (pv 0) pe_int (fun _ _ => rfl)) (nomark _))))))), ?_⟩
    refine ⟨_, rfl, _, _, true, rfl, .tup ht, isi_tuple_tuple K, true, rfl, ?_⟩
    refine iteF ?_
    refine ⟨_, rfl, t, _, rfl, .inr (SqT.of ht), rfl, _, rfl, ?_⟩
    refine iteNS (by rfl) ?_
    refine ⟨_, rfl, t, rfl, ⟨_, SqT.of ht⟩, fun D hD => ?_⟩
    refine comp_valT (K := K) (fun i => some (.bl true)) hD ht (by show 4 ≤ 100000; decide) (fun i v H2 G F hi s2 kG kF => ?_) (fun H2 s2 e2 => ?_)
    · obtain ⟨z, rfl⟩ : ∃ z, v = V.int z := by
        have hm := List.mem_of_getElem? hi
        simp only [nV, List.mem_cons, List.not_mem_nil, or_false] at hm
        rcases hm with rfl | rfl | rfl | rfl <;> exact ⟨_, rfl⟩
      exact ⟨_, rfl, z, rfl, kF _ H2 (Same.refl _) rfl⟩
    · refine ⟨D, [true, true, true, true], rfl, SqL.of e2, true, rfl, ?_⟩
      refine iteT ?_
      refine ⟨_, rfl, _, _, _, _, rfl, rfl, SqT.of (s2 _ _ ht), rfl, _, rfl, _, _, _, _, rfl, rfl, SqT.of (s2 _ _ ht), rfl, rfl, ?_⟩
      have e : (!decide (V.int x.1 = V.int x.2.2.1)) = (!decide (x.1 = x.2.2.1)) := by
        by_cases q : x.1 = x.2.2.1
        · simp [q]
        · simp [q]
      show Q (.bl (!decide (V.int x.1 = V.int x.2.2.1))) H2
      rw [e]
      exact k H2 s2

/-! ### notes and numbers, told or refused -/
instance (cs : List Int) (x : Nt) : Decidable (NtOk cs x) := by unfold NtOk; infer_instance
def AllNt (cs : List Int) (ns : List Nt) : Prop := ∀ x ∈ ns, NtOk cs x
def spBetweenG (K : PySem.W.Frag) : Sp := fun vs H Q _ => ∃ (c t : Addr) (cs : List Int) (x : Nt), vs = [.ref c, .ref t] ∧ H c = some (.lst (cs.map V.int)) ∧ H t = some (.tup (nV x)) ∧ CsOk cs ∧ ∀ H', Same H H' → Q (.bl (decide (NtOk cs x))) H'
theorem ok_is_betweenG {f : Addr} {fd : FuncData} (F : Fun K "is_between" "is_between" s_is_between f fd) (F_is_below : FnAt P w K mg base 2 "is_below" ["value", "count"] (spBelow K)) (F_is_note : FnAt P w K mg base 2 "is_note" ["value"] (spIsNote K)) (Bt : Blt mg) : FnOk P w K mg base CX0 3 f fd ["counts", "note"] (spBetweenG K) := by
  refine F.ok sc_is_between (fun vs H Q E h => ?_) (fun cdv A outer s H vs Q E hr h => ?_)
  · obtain ⟨c, t, cs, x, rfl, _⟩ := h
    rfl
  · obtain ⟨c, t, cs, x, rfl, hc, ht, cok, k⟩ := h
    have hu64 := hr.units
    refine ⟨_, (pss_cons (ps_if (PW.pt (pw_or (pt_not (pt_val (pe_fn F_is_note (hr.mono (by decide)) (by rfl) (pa_cons (pv 1) pa_nil)))) (pw_or (pt_not (pt_val (pe_fn F_is_below (hr.mono (by decide)) (by rfl) (pa_cons (pe_ix (ix_tupK (K := K) rfl) (pv 1) pe_int (fun _ _ => rfl)) (pa_cons (pe_callB (call_len_seqK (K := K) rfl) (by rfl) Bt.b_len bt_len (pa_cons (pv 0) pa_nil)) pa_nil))))) (pw_or1 (pt_not (pt_val (pe_fn F_is_below (hr.mono (by decide)) (by rfl) (pa_cons (pe_ix (ix_tupK (K := K) rfl) (pv 1) pe_int (fun _ _ => rfl)) (pa_cons (pe_callB (call_len_seqK (K := K) rfl) (by rfl) Bt.b_len bt_len (pa_cons (pv 0) pa_nil)) pa_nil))))))))) (pss_one (ps_ret pe_bl)) pss_nil)
      (pss_one (ps_ret (pe_and (pe_fn F_is_below (hr.mono (by decide)) (by rfl) (pa_cons (pe_ix (ix_tupK (K := K) rfl) (pv 1) pe_int (fun _ _ => rfl)) (pa_cons (pe_ix (ix_listK (K := K) rfl) (pv 0) (pe_ix (ix_tupK (K := K) rfl) (pv 1) pe_int (fun _ _ => rfl)) (fun _ _ => rfl)) pa_nil))) (pe_one (pe_fn F_is_below (hr.mono (by decide)) (by rfl) (pa_cons (pe_ix (ix_tupK (K := K) rfl) (pv 1) pe_int (fun _ _ => rfl)) (pa_cons (pe_ix (ix_listK (K := K) rfl) (pv 0) (pe_ix (ix_tupK (K := K) rfl) (pv 1) pe_int (fun _ _ => rfl)) (fun _ _ => rfl)) pa_nil)))))))), ?_⟩
    refine ⟨_, rfl, t, x, rfl, ht, fun H1 s1 => ⟨_, rfl, ?_⟩⟩
    have hc1 := s1 _ _ hc
    have ht1 := s1 _ _ ht
    have no : ¬ NtOk cs x → Q (.bl false) H1 := fun z => by
      have := k H1 s1
      rw [decide_eq_false z] at this
      exact this
    by_cases hne : x.1 = x.2.2.1
    · rw [show (!decide (x.1 = x.2.2.1)) = false by simp [hne]]
      exact iteT (no fun z => z.2.2.2.2 hne)
    rw [show (!decide (x.1 = x.2.2.1)) = true by simp [hne]]
    refine iteF ?_
    refine ⟨_, rfl, _, _, _, _, rfl, rfl, SqT.of ht1, rfl, _, rfl, c, _, rfl, .inl (SqL.of hc1), _, _, rfl, _, rfl, ?_⟩
    rw [List.length_map]
    by_cases w1 : inP x.1 cs.length
    rotate_left
    · rw [decide_eq_false w1]
      exact iteT (no fun z => w1 z.1)
    rw [decide_eq_true w1]
    refine iteF ?_
    refine ⟨_, rfl, _, _, _, _, rfl, rfl, SqT.of ht1, rfl, _, rfl, c, _, rfl, .inl (SqL.of hc1), _, _, rfl, _, rfl, ?_⟩
    rw [List.length_map]
    by_cases w2 : inP x.2.2.1 cs.length
    rotate_left
    · rw [decide_eq_false w2]
      exact iteT (no fun z => w2 z.2.2.1)
    rw [decide_eq_true w2]
    refine iteF ?_
    have g1 := (cok.gI x.1).1
    have g2 := (cok.gI x.2.2.1).1
    have e1 : gI cs x.1 = ((gI cs x.1).toNat : Int) := by omega
    have e2 : gI cs x.2.2.1 = ((gI cs x.2.2.1).toNat : Int) := by omega
    refine ⟨_, rfl, _, _, _, _, rfl, rfl, SqT.of ht1, rfl, _, rfl, _, rfl, _, _, _, _, rfl, rfl, SqT.of ht1, rfl, _, _, _, _, rfl, rfl, SqL.of hc1, atI_gI w1.1 w1.2, x.2.1, (gI cs x.1).toNat, by rw [← e1]; rfl, _, rfl, ?_⟩
    by_cases w3 : inP x.2.1 (gI cs x.1).toNat
    rotate_left
    · rw [decide_eq_false w3]
      refine iteF ?_
      exact no fun z => w3 ⟨z.2.1.1, by have := z.2.1.2; omega⟩
    rw [decide_eq_true w3]
    refine iteT ?_
    refine ⟨_, rfl, _, _, _, _, rfl, rfl, SqT.of ht1, rfl, _, rfl, _, rfl, _, _, _, _, rfl, rfl, SqT.of ht1, rfl, _, _, _, _, rfl, rfl, SqL.of hc1, atI_gI w2.1 w2.2, x.2.2.2, (gI cs x.2.2.1).toNat, by rw [← e2]; rfl, ?_⟩
    have e : decide (inP x.2.2.2 (gI cs x.2.2.1).toNat) = decide (NtOk cs x) := by
      rw [Bool.eq_iff_iff, decide_eq_true_iff, decide_eq_true_iff]
      constructor
      · intro z
        exact ⟨w1, ⟨w3.1, by have := w3.2; omega⟩, w2, ⟨z.1, by have := z.2; omega⟩, hne⟩
      · intro z
        exact ⟨z.2.2.2.1.1, by have := z.2.2.2.1.2; omega⟩
    rw [e]
    exact k H1 s1
def spCheckNX (CN : Addr) (K : PySem.W.Frag) : Sp := fun vs H Q E => ∃ (t c a : Addr) (cs : List Int) (ns : List Nt), vs = [.ref t] ∧ RecAt H t c a cs ns ∧ CsOk cs ∧ ns.length ≤ 90000 ∧ (AllNt cs ns → ∀ H', Same H H' → Q .non H') ∧ (¬ AllNt cs ns → ∀ H', Same H H' → E (.ref CN) none H')
theorem ok_check_notesX {f : Addr} {fd : FuncData} (F : Fun K "check_notes" "check_notes" s_check_notes f fd) (F_is_between : FnAt P w K mg base 3 "is_between" ["counts", "note"] (spBetweenG K)) (Bt : Blt mg) {C_NoNote : Addr} (X_NoNote : Xr K mg C_NoNote "NoNote") : FnOk P w K mg base (CX1 P w) 4 f fd ["record"] (spCheckNX C_NoNote K) := by
  refine F.okX sc_check_notes (fun vs H Q E h => ?_) (fun cdv A outer s H vs Q E hr h hR => ?_)
  · obtain ⟨t, c, a, cs, ns, rfl, _⟩ := h
    rfl
  · obtain ⟨t, c, a, cs, ns, rfl, ⟨ht, hc, hN⟩, ok, nl, k1, k2⟩ := h
    have hu64 := hr.units
    obtain ⟨vs, ha, dv⟩ := id hN
    have vl : vs.length = ns.length := by rw [dv.length, List.length_map]
    refine ⟨_, (pss_one (ps_if (pt_not (pt_val (pe_callB (call_all_boolsK (K := K) rfl rfl) (by rfl) Bt.b_all bt_all (pa_cons (pe_comp rfl (N := ["note", "record"]) (own := ["note"]) (caps := [0]) (CompScope.of (by kernel_rfl)) (pi_listK (K := K) rfl (pe_ix (ix_tupK (K := K) rfl) (pv 0) pe_int (fun _ _ => rfl))) (fun _ _ _ _ => (pg_name (i := 0) (show List.Nodup (["note", "record"] : List Str) by decide +kernel) rfl (Or.inl rfl))) (fun _ _ _ _ => pts_nil) (fun _ _ _ _ => (pe_fn F_is_between (hr.mono (by decide)) (by rfl) (pa_cons (pe_ix (ix_tupK (K := K) rfl) (pv 1) pe_int (fun _ _ => rfl)) (pa_cons (pv 0) pa_nil))))) pa_nil)))) (pss_one (ps_raise PySem.F.excBase_ValueError X_NoNote.ex X_NoNote.bd (by rfl) rfl rfl hR (pa_cons pe_str pa_nil))) pss_nil)), ?_⟩
    refine ⟨_, rfl, _, _, _, _, rfl, rfl, SqT.of ht, rfl, a, rfl, ⟨_, SqL.of ha⟩, fun D hD => ?_⟩
    refine comp_val (K := K) (fun i => (ns[i]?).map fun x => V.bl (decide (NtOk cs x))) hD (SqL.of ha) (by omega) (fun i v H2 G F hi s2 kG kF => ?_) (fun H2 s2 e2 => ?_)
    · obtain ⟨x, q, ex, rfl, hx⟩ := nts_get dv hi
      exact ⟨_, rfl, _, _, _, _, rfl, rfl, SqT.of (s2 _ _ ht), rfl, _, rfl, c, q, cs, x, rfl, s2 _ _ hc, s2 _ _ hx, ok, fun H3 s3 => kF _ H3 s3 (by rw [ex]; rfl)⟩
    rw [vl, fm_some] at e2
    refine ⟨D, ns.map (fun x => decide (NtOk cs x)), rfl, SqL.of (by rw [e2, List.map_map]; rfl), _, rfl, ?_⟩
    by_cases al : AllNt cs ns
    · have ea : (ns.map (fun x => decide (NtOk cs x))).all id = true := by
        rw [List.all_map, List.all_eq_true]
        intro h hh
        exact decide_eq_true (al h hh)
      rw [ea]
      refine iteF ?_
      exact k1 al H2 s2
    · have ea : (ns.map (fun x => decide (NtOk cs x))).all id = false := by
        rw [List.all_map, ← Bool.not_eq_true, List.all_eq_true]
        intro z
        exact al fun h hh => of_decide_eq_true (p := NtOk cs h) (z h hh)
      rw [ea]
      refine iteT ?_
      exact ⟨(by show 1 ≤ sizeLine; decide), k2 al H2 s2⟩

/-! ### numbers of any word -/
def numV : Option Nat → V
  | some n => .int (n : Nat)
  | none => .non
def spNumOf (K : PySem.W.Frag) : Sp := fun vs H Q _ => ∃ x : Str, vs = [.str x] ∧ x.length ≤ 1000000 ∧ ∀ H', Same H H' → Q (numV (numT x)) H'
theorem len_list (x : Str) : x.cps.toList.length = x.length := by simp [Str.length]
theorem fig_is (c : Nat) : (!(Builtin.Str.occurrences (Str.ofString "0123456789") ⟨#[c]⟩ 0 (Str.ofString "0123456789").length 1).isEmpty) = (decide (48 ≤ c) && decide (c ≤ 57)) := by
  rw [StrLaws.found_one]
  have il : (Str.ofString "0123456789").cps.toList = [48, 49, 50, 51, 52, 53, 54, 55, 56, 57] := by decide
  rw [il]
  by_cases h : 48 ≤ c ∧ c ≤ 57
  · have : c = 48 ∨ c = 49 ∨ c = 50 ∨ c = 51 ∨ c = 52 ∨ c = 53 ∨ c = 54 ∨ c = 55 ∨ c = 56 ∨ c = 57 := by omega
    rw [decide_eq_true h.1, decide_eq_true h.2, decide_eq_true (by simpa using this)]; rfl
  · have n : c ∉ [48, 49, 50, 51, 52, 53, 54, 55, 56, 57] := fun z => by
      simp only [List.mem_cons, List.not_mem_nil, or_false] at z
      omega
    rw [decide_eq_false n]
    by_cases h1 : 48 ≤ c
    · rw [decide_eq_true h1, decide_eq_false (by omega)]; rfl
    · rw [decide_eq_false h1]; rfl
theorem ok_numof {f : Addr} {fd : FuncData} (F : Fun K "number_of" "number_of" s_number_of f fd) (G_FIGURES : Gv mg "FIGURES" (.str "0123456789")) (G_MOST_FIGURES : Gv mg "MOST_FIGURES" (.int 3)) (Bt : Blt mg) : FnOk P w K mg base CX0 1 f fd ["word"] (spNumOf K) := by
  refine F.ok sc_number_of (fun vs H Q E h => ?_) (fun cdv A outer s H vs Q E hr h => ?_)
  · obtain ⟨x, rfl, _⟩ := h
    rfl
  · obtain ⟨x, rfl, xl, k⟩ := h
    have hu64 := hr.units
    refine ⟨_, (pss_cons (ps_if (pt_not (pt_chain op_le op_le pe_int (pe_callB call_lenS (by rfl) Bt.b_len bt_len (pa_cons (pv 0) pa_nil)) (pe_glob (by rfl) G_MOST_FIGURES.choose_spec.1 G_MOST_FIGURES.choose_spec.2))) (pss_one (ps_ret pe_non)) pss_nil)
      (pss_cons (ps_if (pt_not (pt_val (pe_callB (call_all_boolsK (K := K) rfl rfl) (by rfl) Bt.b_all bt_all (pa_cons (pe_comp rfl (N := ["sign"]) (own := ["sign"]) (caps := []) (CompScope.of (by kernel_rfl)) (pi_str (pv 0)) (fun _ _ _ _ => (pg_name (i := 0) (show List.Nodup (["sign"] : List Str) by decide +kernel) rfl (Or.inl rfl))) (fun _ _ _ _ => pts_nil) (fun _ _ _ _ => (pe_cmpR op_in_str (pv 0) (pe_glob (by rfl) G_FIGURES.choose_spec.1 G_FIGURES.choose_spec.2) (by with_unfolding_all rfl)))) pa_nil)))) (pss_one (ps_ret pe_non)) pss_nil)
      (pss_cons (ps_if (PW.pt (pw_and (pt_cmpR op_eq (pe_ix ix_str (pv 0) pe_int (fun _ _ => rfl)) pe_str (nomark _)) (pw_and1 (pt_cmpR op_gt (pe_callB call_lenS (by rfl) Bt.b_len bt_len (pa_cons (pv 0) pa_nil)) pe_int (nomark _))))) (pss_one (ps_ret pe_non)) pss_nil)
      (pss_one (ps_ret (pe_callTy call_intT (by rfl) Bt.b_int bt_int (pa_cons (pv 0) pa_nil))))))), ?_⟩
    have none_of : numOk x = false → ∀ H', Same H H' → Q .non H' := fun e H' s => by have := k H' s; rwa [numT_none e] at this
    have sz : x.cps.size = x.length := rfl
    refine ⟨_, rfl, x, rfl, by rw [sizeLine_eq]; omega, _, _, rfl, rfl, _, rfl, ?_⟩
    refine ite2 (fun h1 => ?_) (fun h1 => ?_)
    · refine ⟨_, _, rfl, rfl, _, rfl, ?_⟩
      have h1 : 1 ≤ x.length := by have := of_decide_eq_true h1; omega
      by_cases h3 : x.length ≤ 3
      · rw [decide_eq_true (show (x.length : Int) ≤ 3 by omega)]
        refine iteF ?_
        refine ⟨_, rfl, x, rfl, fun D hD => ?_⟩
        refine comp_valS (fun i => (x.cps.toList[i]?).map fun c => V.bl (decide (48 ≤ c) && decide (c ≤ 57))) hD (by omega) (fun m c H1 G F hc s1 kG kF => ?_) (fun H1 s1 e1 => ?_)
        · refine ⟨_, rfl, _, _, rfl, rfl, ?_⟩
          rw [fig_is]
          have hc' : x.cps.toList[m]? = some c := by rw [Array.getElem?_toList]; exact hc
          exact kF _ H1 (Same.refl _) (by rw [hc']; rfl)
        rw [show x.cps.size = x.cps.toList.length by simp, fm_some] at e1
        refine ⟨D, x.cps.toList.map fun c => decide (48 ≤ c) && decide (c ≤ 57), rfl, SqL.of (by rw [e1, List.map_map]; rfl), _, rfl, ?_⟩
        have ea : (x.cps.toList.map fun c => decide (48 ≤ c) && decide (c ≤ 57)).all id = x.cps.toList.all (fun c => decide (48 ≤ c) && decide (c ≤ 57)) := by rw [List.all_map]; rfl
        rw [ea]
        cases al : x.cps.toList.all (fun c => decide (48 ≤ c) && decide (c ≤ 57)) with
        | false =>
          refine iteT ?_
          exact none_of (by unfold numOk; rw [al, Bool.and_false, Bool.false_and]) H1 s1
        | true =>
          refine iteF ?_
          obtain ⟨c, ec⟩ : ∃ c, x.cps.toList[0]? = some c := ⟨_, List.getElem?_eq_getElem (by rw [len_list]; omega)⟩
          refine ⟨_, rfl, x, 0, c, rfl, rfl, by rw [sizeLine_eq]; omega, atI_nat (j := 0) ec, rfl, _, rfl, ?_⟩
          have e0 : x.cps[0]? = some c := by rw [← Array.getElem?_toList]; exact ec
          have okx : (decide (x.length ≤ 1) || !decide (x.cps[0]? = some 48)) = true → numOk x = true := fun q => by
            unfold numOk
            rw [al, decide_eq_true h1, decide_eq_true h3, q]; rfl
          have fin : numOk x = true → ∃ (n : Int), PySem.intText? x = some n ∧ x.length ≤ 640 ∧ Q (.int n) H1 := fun ok => by
            obtain ⟨n, n1, rfl⟩ := num_canon ok
            have := k H1 s1
            rw [numT_nm n1] at this
            exact ⟨n, nm_reads n1, by omega, this⟩
          by_cases hz : c = 48
          · refine ite2 (fun _ => ?_) (fun z => absurd (decide_eq_true (by rw [hz]; rfl)) z)
            refine ⟨_, rfl, x, rfl, by rw [sizeLine_eq]; omega, _, _, rfl, rfl, _, rfl, ?_⟩
            by_cases l1 : 1 < x.length
            · rw [decide_eq_true (show (1 : Int) < x.length by omega)]
              refine iteT ?_
              exact none_of (by unfold numOk; rw [decide_eq_false (show ¬ x.length ≤ 1 by omega), e0, hz]; simp) H1 s1
            · rw [decide_eq_false (show ¬ (1 : Int) < x.length by omega)]
              refine iteF ?_
              obtain ⟨n, e1, e2, q⟩ := fin (okx (by rw [decide_eq_true (show x.length ≤ 1 by omega)]; rfl))
              exact ⟨_, rfl, x, n, rfl, e1, e2, q⟩
          · refine ite2 (fun z => absurd (of_decide_eq_true z) (fun w => hz (by injection w with w; have : [c] = [48] := congrArg (fun x : Str => x.cps.toList) w; simpa using this))) (fun _ => ?_)
            obtain ⟨n, e1, e2, q⟩ := fin (okx (by rw [e0, decide_eq_false (fun z => hz (Option.some.inj z))]; simp))
            exact ⟨_, rfl, x, n, rfl, e1, e2, q⟩
      · rw [decide_eq_false (show ¬ (x.length : Int) ≤ 3 by omega)]
        refine iteT ?_
        exact none_of (by unfold numOk; rw [decide_eq_false h3, Bool.and_false]; rfl) H (Same.refl _)
    · have h1 : ¬ 1 ≤ x.length := fun z => h1 (decide_eq_true (by omega))
      refine ⟨_, rfl, iteT ?_⟩
      exact none_of (by unfold numOk; rw [decide_eq_false h1]; rfl) H (Same.refl _)

/-- the signs of rows with their ends -/
def tot (l : List Str) : Nat := (l.map fun x => x.length + 1).sum
theorem tot_app (a b : List Str) : tot (a ++ b) = tot a + tot b := by unfold tot; rw [List.map_append, List.sum_append]
theorem tot_cons (x : Str) (a : List Str) : tot (x :: a) = x.length + 1 + tot a := by unfold tot; rw [List.map_cons, List.sum_cons]
theorem tot_set : ∀ (l : List Str) (i : Nat) (x y : Str), l[i]? = some x → tot (l.set i y) + x.length = tot l + y.length
  | [], i, x, y, h => by simp at h
  | z :: l, 0, x, y, h => by
    cases h
    rw [List.set_cons_zero, tot_cons, tot_cons]
    omega
  | z :: l, i + 1, x, y, h => by
    rw [List.set_cons_succ, tot_cons, tot_cons]
    have := tot_set l i x y (by simpa using h)
    omega
theorem tot_mem : ∀ {l : List Str} {x : Str}, x ∈ l → x.length + 1 ≤ tot l
  | z :: l, x, h => by
    rw [tot_cons]
    rcases List.mem_cons.mp h with rfl | h
    · omega
    · have := tot_mem h; omega
theorem tot_join (s : Str) (h : s.length = 1) : ∀ l : List Str, (Txt.join s l).length ≤ tot l ∧ (l ≠ [] → (Txt.join s l).length + 1 = tot l)
  | [] => ⟨by show (Str.empty).length ≤ 0; decide, fun z => absurd rfl z⟩
  | x :: l => by
    have e : (Txt.join s (x :: l)).length = x.length + tot l := by
      rw [glued_cons, Str.length_append, cat_len, List.map_map]
      unfold tot
      congr 2
      refine List.map_congr_left fun y _ => ?_
      show (s ++ y).length = _
      rw [Str.length_append, h]; omega
    rw [e, tot_cons]
    exact ⟨by omega, fun _ => by omega⟩
theorem tot_split (x s : Str) (h : s.length = 1) : tot (Txt.split x s) = x.length + 1 := by
  have := (tot_join s h (Txt.split x s)).2 (split_ne x s)
  rw [← this, show Txt.join s (Txt.split x s) = Str.join s (Txt.split x s) from StrLaws.glued_eq_join _ _, StrLaws.join_split]
theorem tot_len (l : List Str) : l.length ≤ tot l := by
  induction l with
  | nil => exact Nat.le_refl _
  | cons x l ih => rw [tot_cons, List.length_cons]; omega
theorem sum_tot (l : List Str) : (l.map (·.length)).sum + l.length = tot l := by
  induction l with
  | nil => rfl
  | cons x l ih => rw [tot_cons, List.map_cons, List.sum_cons, List.length_cons]; omega

section
variable {K : PySem.W.Frag} {a D : Addr} {xs : List V} {te : TE} {Q : VK} {rest : St} {H1 : Hp}
/-- an element may end it: behind the block all were told -/
theorem comp_valX (f : Nat → Option V) (hD : H1 D = none) (hq : SqL K H1 a xs) (hx : xs.length ≤ 100000)
    (hs : ∀ i x H (F : VK), xs[i]? = some x → Same H1 H → (∀ y H', Same H H' → f i = some y → F y H') → te (some x :: rest) H F)
    (hd : ∀ H, Same H1 H → (∀ i, i < xs.length → (f i).isSome = true) → H D = some (.lst ((List.range xs.length).filterMap f)) → Q (.ref D) H) : CompW (Itl K a) (gName 0) tAll te Q D (none :: rest) H1 := by
  refine comp_list (K := K) (xs := xs) (fun i σ H => (∃ v, σ = v :: rest) ∧ Same H1 H ∧ (∀ j, j < i → (f j).isSome = true) ∧ H D = some (.lst ((List.range i).filterMap f))) ⟨⟨none, rfl⟩, same_new hD, fun j hj => absurd hj (Nat.not_lt_zero _), upd_same⟩ (fun i σ H _ ⟨_, sm, _⟩ => sm.sqL _ _ hq) ?_ (fun σ H ⟨_, sm, al, e⟩ => hd H sm al e)
  rintro i x σ H hi ⟨⟨v, rfl⟩, sm, al, e⟩
  have hil : i < xs.length := (List.getElem?_eq_some_iff.mp hi).1
  refine hs i x H _ hi sm (fun y H4 s4 ef => ?_)
  refine ⟨_, s4 _ _ e, ?_, ⟨_, rfl⟩, (sm.trans s4).newly hD, fun j hj => ?_, ?_⟩
  · have := fm_len f i
    rw [sizeLine_eq]; omega
  · by_cases q : j = i
    · rw [q, ef]; rfl
    · exact al j (by omega)
  · rw [upd_same, fm_succ, ef]; rfl
theorem comp_datX (f : Nat → Option PyData) (hf : ∀ i d, f i = some d → imm d = true) (hD : H1 D = none) (hq : SqL K H1 a xs) (hx : xs.length ≤ 100000)
    (hs : ∀ i x H (F : VK), xs[i]? = some x → Same H1 H → (∀ y d H', Same H H' → f i = some d → Dat H' y d → F y H') → te (some x :: rest) H F)
    (hd : ∀ H vs, Same H1 H → (∀ i, i < xs.length → (f i).isSome = true) → H D = some (.lst vs) → Dats H vs ((List.range xs.length).filterMap f) → Q (.ref D) H) : CompW (Itl K a) (gName 0) tAll te Q D (none :: rest) H1 := by
  refine comp_list (K := K) (xs := xs) (fun i σ H => (∃ v, σ = v :: rest) ∧ Same H1 H ∧ (∀ j, j < i → (f j).isSome = true) ∧ ∃ vs, H D = some (.lst vs) ∧ Dats H vs ((List.range i).filterMap f)) ⟨⟨none, rfl⟩, same_new hD, fun j hj => absurd hj (Nat.not_lt_zero _), [], upd_same, by simp [Dats]⟩ (fun i σ H _ ⟨_, sm, _⟩ => sm.sqL _ _ hq) ?_ (fun σ H ⟨_, sm, al, vs, e, d⟩ => hd H vs sm al e d)
  rintro i x σ H hi ⟨⟨v, rfl⟩, sm, al, vs, e, d⟩
  have hil : i < xs.length := (List.getElem?_eq_some_iff.mp hi).1
  have im := imms_fm hf (List.range i)
  refine hs i x H _ hi sm (fun y dd H4 s4 ef dy => ?_)
  have hl : vs.length ≤ i := by rw [d.length]; exact fm_len f i
  have kp : Kp D H4 (upd H4 D (.lst (vs ++ [y]))) := Kp.set
  have tp := kp.tups (s4 _ _ e)
  refine ⟨vs, s4 _ _ e, ?_, ⟨_, rfl⟩, (sm.trans s4).newly hD, fun j hj => ?_, vs ++ [y], upd_same, ?_⟩
  · rw [sizeLine_eq]; omega
  · by_cases q : j = i
    · rw [q, ef]; rfl
    · exact al j (by omega)
  · rw [fm_succ, ef]
    exact dats_snoc (Dats.keep (fun a xs h => tp _ _ (s4.tups _ _ h)) _ im d) (Dat.keep tp _ (hf i dd ef) dy)
end

/-! ### records read, of any text -/
theorem first_cut {x : Str} {c : Nat} (h : c ∈ x.cps.toList) : ∃ a b : Str, x = a ++ ⟨#[c]⟩ ++ b ∧ c ∉ a.cps.toList := by
  obtain ⟨as, bs, e, n⟩ := List.eq_append_cons_of_mem h
  refine ⟨⟨as.toArray⟩, ⟨bs.toArray⟩, str_of_list ?_, by simpa using n⟩
  rw [Str.cps_append, Str.cps_append]
  simp [e]
def twoN (a b : Option Nat) : Option (Int × Int) := match a, b with
  | some a, some b => some ((a : Nat), (b : Nat))
  | _, _ => none
theorem twoN_none (a : Option Nat) : twoN a none = none := by cases a <;> rfl
def touchP (x : Str) : Option (Int × Int) := twoN (numT (Txt.partition x (Str.ofString ".")).1) (numT (Txt.partition x (Str.ofString ".")).2.2)
def two (a b : Option (Int × Int)) : Option Nt := match a, b with
  | some p, some q => some (p.1, p.2, q.1, q.2)
  | _, _ => none
def noteP (x : Str) : Option Nt := match Txt.split x (Str.ofString " ") with
  | [a, b] => two (touchP a) (touchP b)
  | _ => none
def numI (x : Str) : Int := ((numT x).getD 0 : Nat)
def noteG (x : Str) : Nt := (noteP x).getD (0, 0, 0, 0)
def countsOk (x : Str) : Prop := (∃ r, Txt.split x (Str.ofString " ") = Str.ofString "counts" :: r) ∧ (∀ w ∈ (Txt.split x (Str.ofString " ")).tail, (numT w).isSome = true) ∧ (Txt.split x (Str.ofString " ")).tail.length ≤ 8 ∧ ((Txt.split x (Str.ofString " ")).tail.map numI).sum ≤ 300
def countsG (x : Str) : List Int := (Txt.split x (Str.ofString " ")).tail.map numI
def rowsOk (rs : List Str) : Prop := ∀ y ∈ rs, (noteP y).isSome = true
theorem numI_nn (x : Str) : 0 ≤ numI x := Int.natCast_nonneg _
theorem sum_le_mem : ∀ {l : List Int} {c : Int}, (∀ d ∈ l, 0 ≤ d) → c ∈ l → c ≤ l.sum
  | x :: l, c, h, m => by
    have hs : 0 ≤ l.sum := by
      have : ∀ l : List Int, (∀ d ∈ l, 0 ≤ d) → 0 ≤ l.sum := fun l => by
        induction l with
        | nil => intro _; exact Int.le_refl _
        | cons y l ih =>
          intro h
          have := ih fun d hd => h d (by simp [hd])
          have := h y (by simp)
          rw [List.sum_cons]; omega
      exact this l fun d hd => h d (by simp [hd])
    rw [List.sum_cons]
    rcases List.mem_cons.mp m with rfl | m
    · omega
    · have := sum_le_mem (fun d hd => h d (by simp [hd])) m
      have := h x (by simp)
      omega
theorem counts_cs {x : Str} (h : countsOk x) : CsOk (countsG x) := by
  refine ⟨by unfold countsG; rw [List.length_map]; exact h.2.2.1, fun c hc => ?_⟩
  have nn : ∀ d ∈ countsG x, 0 ≤ d := fun d hd => by
    obtain ⟨w, _, rfl⟩ := List.mem_map.mp hd
    exact numI_nn w
  exact ⟨nn c hc, Int.le_trans (sum_le_mem nn hc) h.2.2.2⟩
theorem cut_tail (x : V) (xs : List V) : cutV (x :: xs) (some 1) none = xs := by
  unfold cutV
  rw [HT.sIx_none, show (some (1 : Int)) = some ((1 : Nat) : Int) from rfl, HT.sIx_nat]
  simp
theorem same_none {H H' : Hp} {p : Addr} (h : Same H H') (n : H' p = none) : H p = none := by
  cases e : H p with
  | none => rfl
  | some o => rw [h _ _ e] at n; cases n
def spReadN (C : Addr) (K : PySem.W.Frag) : Sp := fun vs H Q E => ∃ x : Str, vs = [.str x] ∧ x.length ≤ 1000000 ∧ (∀ n : Nat, numT x = some n → ∀ H', Same H H' → Q (.int (n : Nat)) H') ∧ (numT x = none → ∀ H', Same H H' → E (.ref C) none H')
theorem ok_readN {C_NoText : Addr} (X_NoText : Xr K mg C_NoText "NoText") {f : Addr} {fd : FuncData} (F : Fun K "read_number" "read_number" s_read_number f fd) (F_number_of : FnAt P w K mg base 1 "number_of" ["word"] (spNumOf K)) : FnOk P w K mg base (CX1 P w) 2 f fd ["word"] (spReadN C_NoText K) := by
  refine F.okX sc_read_number (fun vs H Q E h => ?_) (fun cdv A outer s H vs Q E hr h hR => ?_)
  · obtain ⟨x, rfl, _⟩ := h
    rfl
  · obtain ⟨x, rfl, xl, k1, k2⟩ := h
    refine ⟨_, (pss_cons (ps_set (i := 1) sc_read_number.nd rfl (Or.inl rfl) (pe_fn F_number_of (hr.mono (by decide)) (by rfl) (pa_cons (pv 0) pa_nil)))
      (pss_cons (ps_if (pt_cmpR op_isN (pv 1) pe_non (nomark _)) (pss_one (ps_raise PySem.F.excBase_ValueError X_NoText.ex X_NoText.bd (by rfl) rfl rfl hR (pa_cons pe_str pa_nil))) pss_nil)
      (pss_one (ps_ret (pv 1))))), ?_⟩
    refine ⟨_, rfl, x, rfl, xl, fun H1 s1 => ?_⟩
    cases e : numT x with
    | none =>
      refine ⟨_, rfl, rfl, _, rfl, iteT ?_⟩
      exact ⟨(by show 1 ≤ sizeLine; decide), k2 e H1 s1⟩
    | some n =>
      refine ⟨_, rfl, rfl, _, rfl, iteF ?_⟩
      exact ⟨_, rfl, k1 n e H1 s1⟩
theorem sub_len (x : Str) (i j : Nat) : (Builtin.Str.strSub x i j).length ≤ x.length := by
  rw [← len_list, ← len_list, StrLaws.strSub_toList, List.length_take, List.length_drop]
  omega
theorem part_len (x y : Str) : (Txt.partition x y).1.length ≤ x.length ∧ (Txt.partition x y).2.2.length ≤ x.length := by
  unfold Txt.partition
  split
  · exact ⟨sub_len _ _ _, sub_len _ _ _⟩
  · exact ⟨Nat.le_refl _, Nat.zero_le _⟩
def spReadT (C : Addr) (K : PySem.W.Frag) : Sp := fun vs H Q E => ∃ x : Str, vs = [.str x] ∧ x.length ≤ 1000000 ∧ (∀ p, touchP x = some p → ∀ (t : Addr) (H' : Hp), H' t = some (.tup [.int p.1, .int p.2]) → Same H H' → Q (.ref t) H') ∧ (touchP x = none → ∀ H', Same H H' → E (.ref C) none H')
theorem ok_readT {C_NoText : Addr} {f : Addr} {fd : FuncData} (F : Fun K "read_touch" "read_touch" s_read_touch f fd) (F_read_number : FnAtX P w K mg base 2 "read_number" ["word"] (spReadN C_NoText K)) : FnOk P w K mg base (CX1 P w) 3 f fd ["word"] (spReadT C_NoText K) := by
  refine F.okX sc_read_touch (fun vs H Q E h => ?_) (fun cdv A outer s H vs Q E hr h hR => ?_)
  · obtain ⟨x, rfl, _⟩ := h
    rfl
  · obtain ⟨x, rfl, xl, k1, k2⟩ := h
    refine ⟨_, (pss_cons (ps_set (i := 1) sc_read_touch.nd rfl (Or.inl rfl) (pe_bmK (K := K) rfl PySem.F.plainAttrs_str PySem.F.slot_str_partition PySem.F.type_str_partition mt_part (pv 0) (pa_cons pe_str pa_nil)))
      (pss_one (ps_ret (pe_tup (pa_cons (pe_fnX F_read_number rfl hR (hr.mono (by decide)) (by rfl) (pa_cons (pe_ix (ix_tupK (K := K) rfl) (pv 1) pe_int (fun _ _ => rfl)) pa_nil)) (pa_cons (pe_fnX F_read_number rfl hR (hr.mono (by decide)) (by rfl) (pa_cons (pe_ix (ix_tupK (K := K) rfl) (pv 1) pe_int (fun _ _ => rfl)) pa_nil)) pa_nil)))))), ?_⟩
    obtain ⟨l1, l2⟩ := part_len x (Str.ofString ".")
    unfold touchP at k1 k2
    refine ⟨_, rfl, rfl, _, _, rfl, rfl, rfl, by rw [sizeLine_eq]; omega, fun q hq => ?_⟩
    generalize Txt.partition x (Str.ofString ".") = pr at l1 l2 k1 k2 ⊢
    obtain ⟨a, b, c⟩ := pr
    simp only at l1 l2 k1 k2
    have sq := same_new (o := HO.tup [.str a, .str b, .str c]) hq
    refine ⟨_, rfl, _, _, _, _, rfl, rfl, SqT.of upd_same, rfl, a, rfl, by omega, fun na ea H2 s2 => ?_, fun ea H2 s2 => k2 (by rw [ea]; rfl) H2 (sq.trans s2)⟩
    refine ⟨_, rfl, _, _, _, _, rfl, rfl, SqT.of (s2 _ _ upd_same), rfl, c, rfl, by omega, fun nb eb H3 s3 => ?_, fun eb H3 s3 => k2 (by rw [eb]; exact twoN_none _) H3 ((sq.trans s2).trans s3)⟩
    refine ⟨(by show 2 ≤ sizeLine; decide), fun p hp => ?_⟩
    exact k1 ((na : Nat), (nb : Nat)) (by rw [ea, eb]; rfl) p _ upd_same (((sq.trans s2).trans s3).trans (same_new hp))
def spReadNt (C : Addr) (K : PySem.W.Frag) : Sp := fun vs H Q E => ∃ x : Str, vs = [.str x] ∧ x.length ≤ 90000 ∧ (∀ n, noteP x = some n → ∀ (t : Addr) (H' : Hp), H' t = some (.tup (nV n)) → Same H H' → Q (.ref t) H') ∧ (noteP x = none → ∀ H', Same H H' → E (.ref C) none H')
theorem split_le {x w : Str} {c : Nat} (h : w ∈ Txt.split x ⟨#[c]⟩) : w.length ≤ x.length := by
  have a := tot_mem h
  rw [tot_split x ⟨#[c]⟩ rfl] at a
  omega
theorem ok_readNt {C_NoText : Addr} (X_NoText : Xr K mg C_NoText "NoText") {f : Addr} {fd : FuncData} (F : Fun K "read_note" "read_note" s_read_note f fd) (F_read_touch : FnAtX P w K mg base 3 "read_touch" ["word"] (spReadT C_NoText K)) (Bt : Blt mg) : FnOk P w K mg base (CX1 P w) 4 f fd ["line"] (spReadNt C_NoText K) := by
  refine F.okX sc_read_note (fun vs H Q E h => ?_) (fun cdv A outer s H vs Q E hr h hR => ?_)
  · obtain ⟨x, rfl, _⟩ := h
    rfl
  · obtain ⟨x, rfl, xl, k1, k2⟩ := h
    refine ⟨_, (pss_cons (ps_set (i := 1) sc_read_note.nd rfl (Or.inl rfl) (pe_bmK (K := K) rfl PySem.F.plainAttrs_str PySem.F.slot_str_split PySem.F.type_str_split mt_split (pv 0) (pa_cons pe_str pa_nil)))
      (pss_cons (ps_if (pt_cmpR op_ne (pe_callB (call_len_seqK (K := K) rfl) (by rfl) Bt.b_len bt_len (pa_cons (pv 1) pa_nil)) pe_int (nomark _)) (pss_one (ps_raise PySem.F.excBase_ValueError X_NoText.ex X_NoText.bd (by rfl) rfl rfl hR (pa_cons pe_str pa_nil))) pss_nil)
      (pss_one (ps_ret (pe_op op_catTU (pe_fnX F_read_touch rfl hR (hr.mono (by decide)) (by rfl) (pa_cons (pe_ix (ix_listK (K := K) rfl) (pv 1) pe_int (fun _ _ => rfl)) pa_nil)) (pe_fnX F_read_touch rfl hR (hr.mono (by decide)) (by rfl) (pa_cons (pe_ix (ix_listK (K := K) rfl) (pv 1) pe_int (fun _ _ => rfl)) pa_nil))))))), ?_⟩
    have tl := tot_len (Txt.split x (Str.ofString " "))
    rw [tot_split x (Str.ofString " ") rfl] at tl
    have wl : ∀ w ∈ Txt.split x (Str.ofString " "), w.length ≤ x.length := fun w hw => split_le (c := 32) hw
    unfold noteP at k1 k2
    refine ⟨_, rfl, rfl, _, _, rfl, rfl, rfl, by rw [sizeLine_eq]; omega, fun q hq => ?_⟩
    generalize Txt.split x (Str.ofString " ") = ws at tl wl k1 k2 ⊢
    have sq := same_new (o := HO.lst (ws.map V.str)) hq
    refine ⟨_, rfl, q, _, rfl, .inl (SqL.of upd_same), rfl, _, rfl, ?_⟩
    rw [List.length_map]
    by_cases h2 : ws.length = 2
    rotate_left
    · refine ite2 (fun _ => ?_) (fun z => absurd (by rw [decide_eq_false (fun z => h2 (by injection z with z; omega))]; rfl) z)
      refine ⟨(by show 1 ≤ sizeLine; decide), k2 ?_ _ sq⟩
      split
      · simp at h2
      · rfl
    match ws, h2 with
    | [a, b], _ =>
      refine ite2 (fun z => absurd z (by simp)) (fun _ => ?_)
      refine ⟨_, rfl, _, _, _, _, rfl, rfl, SqL.of upd_same, rfl, a, rfl, by have := wl a (by simp); omega, fun pa ea p1 H2 e2 s2 => ?_, fun ea H2 s2 => k2 (by show two (touchP a) _ = none; rw [ea]; rfl) H2 (sq.trans s2)⟩
      refine ⟨_, rfl, _, _, _, _, rfl, rfl, SqL.of (s2 _ _ upd_same), rfl, b, rfl, by have := wl b (by simp); omega, fun pb eb p2 H3 e3 s3 => ?_, fun eb H3 s3 => k2 (by show two (touchP a) (touchP b) = none; rw [ea, eb]; rfl) H3 ((sq.trans s2).trans s3)⟩
      refine ⟨p1, p2, _, _, rfl, rfl, s3 _ _ e2, e3, (by show 4 ≤ sizeLine; decide), fun p H4 e4 s4 => ?_⟩
      exact k1 (pa.1, pa.2, pb.1, pb.2) (by show two (touchP a) (touchP b) = _; rw [ea, eb]; rfl) p H4 e4 (((sq.trans s2).trans s3).trans s4)
def spReadC (C : Addr) (K : PySem.W.Frag) : Sp := fun vs H Q E => ∃ x : Str, vs = [.str x] ∧ x.length ≤ 90000 ∧ (countsOk x → ∀ (p : Addr) (H' : Hp), H p = none → H' p = some (.lst ((countsG x).map V.int)) → Same H H' → Q (.ref p) H') ∧ (¬ countsOk x → ∀ H', Same H H' → E (.ref C) none H')
theorem ok_readC {C_NoText : Addr} (X_NoText : Xr K mg C_NoText "NoText") {f : Addr} {fd : FuncData} (F : Fun K "read_counts" "read_counts" s_read_counts f fd) (F_read_number : FnAtX P w K mg base 2 "read_number" ["word"] (spReadN C_NoText K)) (G_MOST_HANDS : Gv mg "MOST_HANDS" (.int 8)) (G_MOST_TOUCHES : Gv mg "MOST_TOUCHES" (.int 300)) (Bt : Blt mg) : FnOk P w K mg base (CX1 P w) 3 f fd ["line"] (spReadC C_NoText K) := by
  refine F.okA sc_read_counts (fun vs H Q E h => ?_) (fun cdv A outer s H vs Q E hr h hR => ?_)
  · obtain ⟨x, rfl, _⟩ := h
    rfl
  · obtain ⟨x, rfl, xl, k1, k2⟩ := h
    refine ⟨_, (pss_cons (ps_set (i := 1) sc_read_counts.nd rfl (Or.inl rfl) (pe_bmK (K := K) rfl PySem.F.plainAttrs_str PySem.F.slot_str_split PySem.F.type_str_split mt_split (pv 0) (pa_cons pe_str pa_nil)))
      (pss_cons (ps_if (pt_cmpR op_ne (pe_ix (ix_listK (K := K) rfl) (pv 1) pe_int (fun _ _ => rfl)) pe_str (nomark _)) (pss_one (ps_raise PySem.F.excBase_ValueError X_NoText.ex X_NoText.bd (by rfl) rfl rfl hR.rz (pa_cons pe_str pa_nil))) pss_nil)
      (pss_cons (ps_setCX (i := 2) rfl sc_read_counts.nd rfl (Or.inl rfl) rfl ⟨rfl, rfl⟩ hR (N := ["word"]) (own := ["word"]) (caps := []) (CompScope.of (by kernel_rfl)) (pi_listK (K := K) rfl (pe_slice (sl_listK (K := K) rfl) (pv 1) (po_some pe_int) po_none)) (fun _ _ _ _ => (pg_name (i := 0) (show List.Nodup (["word"] : List Str) by decide +kernel) rfl (Or.inl rfl))) (fun _ _ _ _ => pts_nil) (fun _ _ _ _ _ _ hx hR => (pe_fnA F_read_number hx hR (hr.mono (by decide)) (by rfl) (pa_cons (pv 0) pa_nil))))
      (pss_cons (ps_if (PW.pt (pw_or (pt_cmpR op_gt (pe_callB (call_len_seqK (K := K) rfl) (by rfl) Bt.b_len bt_len (pa_cons (pv 2) pa_nil)) (pe_glob (by rfl) G_MOST_HANDS.choose_spec.1 G_MOST_HANDS.choose_spec.2) (nomark _)) (pw_or1 (pt_cmpR op_gt (pe_callB (call_sumK (K := K) rfl rfl) (by rfl) Bt.b_sum bt_sum (pa_cons (pv 2) pa_nil)) (pe_glob (by rfl) G_MOST_TOUCHES.choose_spec.1 G_MOST_TOUCHES.choose_spec.2) (nomark _))))) (pss_one (ps_raise PySem.F.excBase_ValueError X_NoText.ex X_NoText.bd (by rfl) rfl rfl hR.rz (pa_cons pe_str pa_nil))) pss_nil)
      (pss_one (ps_ret (pv 2))))))), ?_⟩
    have tl := tot_len (Txt.split x (Str.ofString " "))
    rw [tot_split x (Str.ofString " ") rfl] at tl
    have wl : ∀ w ∈ Txt.split x (Str.ofString " "), w.length ≤ x.length := fun w hw => split_le (c := 32) hw
    have ne := split_ne x (Str.ofString " ")
    unfold countsOk at k1 k2
    unfold countsG at k1
    refine ⟨_, rfl, rfl, _, _, rfl, rfl, rfl, by rw [sizeLine_eq]; omega, fun q hq => ?_⟩
    generalize Txt.split x (Str.ofString " ") = ws at tl wl ne k1 k2 ⊢
    match ws, ne with
    | w0 :: r, _ =>
      rw [List.tail_cons] at k1 k2
      rw [List.map_cons]
      have sq := same_new (o := HO.lst (V.str w0 :: r.map V.str)) hq
      refine ⟨_, rfl, _, _, _, _, rfl, rfl, SqL.of upd_same, atI_nat (j := 0) rfl, rfl, _, rfl, ?_⟩
      by_cases h0 : w0 = Str.ofString "counts"
      rotate_left
      · refine ite2 (fun _ => ?_) (fun z => absurd (by rw [decide_eq_false (fun z => h0 (by injection z))]; rfl) z)
        exact ⟨(by show 1 ≤ sizeLine; decide), k2 (fun ⟨⟨r', e⟩, _⟩ => h0 (List.cons.inj e).1) _ sq⟩
      subst h0
      refine ite2 (fun z => absurd z (by decide)) (fun _ => ?_)
      refine ⟨_, rfl, _, rfl, q, _, rfl, SqL.of upd_same, fun q2 hq2 => ?_⟩
      rw [cut_tail]
      have sq2 := same_new (o := HO.lst (r.map V.str)) hq2
      have S2 := sq.trans sq2
      rw [List.length_cons] at tl
      refine ⟨q2, rfl, ⟨_, SqL.of upd_same⟩, fun D hD => ?_⟩
      refine comp_valX (K := K) (fun i => (r[i]?).bind fun y => (numT y).map fun n => V.int (n : Nat)) hD (SqL.of upd_same) (by rw [List.length_map]; omega) (fun i v H3 F hi s3 kF => ?_) (fun H3 s3 al e3 => ?_)
      · rw [List.getElem?_map] at hi
        cases ei : r[i]? with
        | none => rw [ei] at hi; cases hi
        | some y =>
          rw [ei] at hi
          cases hi
          have my := List.mem_of_getElem? ei
          refine ⟨_, rfl, y, rfl, by have := wl y (by simp [my]); omega, fun n en H4 s4 => kF _ H4 s4 (by rw [ei, Option.bind_some, en]; rfl), fun en H4 s4 => ?_⟩
          exact k2 (fun z => by have := z.2.1 y my; rw [en] at this; cases this) H4 ((S2.trans s3).trans s4)
      rw [List.length_map] at al e3
      have al' : ∀ y ∈ r, (numT y).isSome = true := fun y hy => by
        obtain ⟨i, hi⟩ := List.getElem?_of_mem hy
        have := al i (List.getElem?_eq_some_iff.mp hi).1
        rw [hi] at this
        simpa using this
      have ef : (List.range r.length).filterMap (fun i => (r[i]?).bind fun y => (numT y).map fun n => V.int (n : Nat)) = (r.map numI).map V.int := by
        rw [List.map_map, ← fm_some r (V.int ∘ numI)]
        refine fm_congr _ trivial fun i hi => ?_
        cases ei : r[i]? with
        | none => rfl
        | some y =>
          have := al' y (List.mem_of_getElem? ei)
          obtain ⟨n, en⟩ := Option.isSome_iff_exists.mp this
          rw [Option.bind_some, Option.map_some, en]
          show some (V.int (n : Nat)) = some (V.int (numI y))
          unfold numI; rw [en]; rfl
      rw [ef] at e3
      have S3 := S2.trans s3
      refine ⟨_, rfl, D, _, rfl, .inl (SqL.of e3), _, _, rfl, rfl, _, rfl, ?_⟩
      rw [List.length_map, List.length_map]
      by_cases h8 : r.length ≤ 8
      rotate_left
      · rw [decide_eq_true (show ((8 : Int) < (r.length : Int)) by omega)]
        refine iteT ?_
        exact ⟨(by show 1 ≤ sizeLine; decide), k2 (fun z => h8 z.2.2.1) _ S3⟩
      rw [decide_eq_false (show ¬ ((8 : Int) < (r.length : Int)) by omega)]
      refine iteF ?_
      refine ⟨_, rfl, D, _, rfl, SqL.of e3, _, _, rfl, rfl, _, rfl, ?_⟩
      by_cases h3 : (r.map numI).sum ≤ 300
      rotate_left
      · rw [decide_eq_true (show ((300 : Int) < (r.map numI).sum) by omega)]
        refine iteT ?_
        exact ⟨(by show 1 ≤ sizeLine; decide), k2 (fun z => h3 z.2.2.2) _ S3⟩
      rw [decide_eq_false (show ¬ ((300 : Int) < (r.map numI).sum) by omega)]
      refine iteF ?_
      exact ⟨_, rfl, k1 ⟨⟨_, rfl⟩, al', h8, h3⟩ D H3 (same_none S2 hD) e3 S3⟩
def rowOne (x : Str) : Str := (Txt.split x (Str.ofString "\n")).headD Str.empty
def rowsT (x : Str) : List Str := (Txt.split x (Str.ofString "\n")).tail
def spReadR (C CN : Addr) (K : PySem.W.Frag) : Sp := fun vs H Q E => ∃ x : Str, vs = [.str x] ∧ x.length ≤ 80000 ∧
  (countsOk (rowOne x) → rowsOk (rowsT x) → AllNt (countsG (rowOne x)) ((rowsT x).map noteG) → ∀ (t c a : Addr) (H' : Hp), RecAt H' t c a (countsG (rowOne x)) ((rowsT x).map noteG) → Same H H' → Q (.ref t) H') ∧
  (countsOk (rowOne x) → rowsOk (rowsT x) → ¬ AllNt (countsG (rowOne x)) ((rowsT x).map noteG) → ∀ H', Same H H' → E (.ref CN) none H') ∧
  (¬ (countsOk (rowOne x) ∧ rowsOk (rowsT x)) → ∀ H', Same H H' → E (.ref C) none H')
theorem ok_readR {C_NoText C_NoNote : Addr} {f : Addr} {fd : FuncData} (F : Fun K "read_record" "read_record" s_read_record f fd) (F_read_counts : FnAtX P w K mg base 3 "read_counts" ["line"] (spReadC C_NoText K)) (F_read_note : FnAtX P w K mg base 4 "read_note" ["line"] (spReadNt C_NoText K)) (F_check_notes : FnAtX P w K mg base 4 "check_notes" ["record"] (spCheckNX C_NoNote K)) : FnOk P w K mg base (CX1 P w) 5 f fd ["text"] (spReadR C_NoText C_NoNote K) := by
  refine F.okA sc_read_record (fun vs H Q E h => ?_) (fun cdv A outer s H vs Q E hr h hR => ?_)
  · obtain ⟨x, rfl, _⟩ := h
    rfl
  · obtain ⟨x, rfl, xl, k1, k2, k3⟩ := h
    refine ⟨_, (pss_cons (ps_set (i := 1) sc_read_record.nd rfl (Or.inl rfl) (pe_bmK (K := K) rfl PySem.F.plainAttrs_str PySem.F.slot_str_split PySem.F.type_str_split mt_split (pv 0) (pa_cons pe_str pa_nil)))
      (pss_cons (ps_set (i := 2) sc_read_record.nd rfl (Or.inl rfl) (pe_tup (pa_cons (pe_fnX F_read_counts rfl hR.rz (hr.mono (by decide)) (by rfl) (pa_cons (pe_ix (ix_listK (K := K) rfl) (pv 1) pe_int (fun _ _ => rfl)) pa_nil)) (pa_cons (pe_compX rfl rfl ⟨rfl, rfl⟩ hR (N := ["line"]) (own := ["line"]) (caps := []) (CompScope.of (by kernel_rfl)) (pi_listK (K := K) rfl (pe_slice (sl_listK (K := K) rfl) (pv 1) (po_some pe_int) po_none)) (fun _ _ _ _ => (pg_name (i := 0) (show List.Nodup (["line"] : List Str) by decide +kernel) rfl (Or.inl rfl))) (fun _ _ _ _ => pts_nil) (fun _ _ _ _ _ _ hx hR => (pe_fnA F_read_note hx hR (hr.mono (by decide)) (by rfl) (pa_cons (pv 0) pa_nil)))) pa_nil))))
      (pss_cons (ps_expr (pe_fnX F_check_notes rfl hR.rz (hr.mono (by decide)) (by rfl) (pa_cons (pv 2) pa_nil)))
      (pss_one (ps_ret (pv 2)))))), ?_⟩
    have tl := tot_len (Txt.split x (Str.ofString "\n"))
    rw [tot_split x (Str.ofString "\n") rfl] at tl
    have wl : ∀ w ∈ Txt.split x (Str.ofString "\n"), w.length ≤ x.length := fun w hw => split_le (c := 10) hw
    have ne := split_ne x (Str.ofString "\n")
    unfold rowOne rowsT at k1 k2 k3
    refine ⟨_, rfl, rfl, _, _, rfl, rfl, rfl, by rw [sizeLine_eq]; omega, fun q hq => ?_⟩
    generalize Txt.split x (Str.ofString "\n") = ws at tl wl ne k1 k2 k3 ⊢
    match ws, ne with
    | w0 :: r, _ =>
      rw [List.tail_cons, show (w0 :: r).headD Str.empty = w0 from rfl] at k1 k2 k3
      rw [List.map_cons]
      rw [List.length_cons] at tl
      have sq := same_new (o := HO.lst (V.str w0 :: r.map V.str)) hq
      refine ⟨_, rfl, _, _, _, _, rfl, rfl, SqL.of upd_same, atI_nat (j := 0) rfl, w0, rfl, by have := wl w0 (by simp); omega, fun c0 c H2 hc0 hc s2 => ?_, fun nc H2 s2 => k3 (fun z => nc z.1) H2 (sq.trans s2)⟩
      refine ⟨_, rfl, _, rfl, q, _, rfl, SqL.of (s2 _ _ upd_same), fun q2 hq2 => ?_⟩
      rw [cut_tail]
      have sq2 := same_new (o := HO.lst (r.map V.str)) hq2
      have S2 := (sq.trans s2).trans sq2
      refine ⟨q2, rfl, ⟨_, SqL.of upd_same⟩, fun D hD => ?_⟩
      refine comp_datX (K := K) (fun i => (r[i]?).bind fun y => (noteP y).map nD) (fun i d e => ?_) hD (SqL.of upd_same) (by rw [List.length_map]; omega) (fun i v H3 F hi s3 kF => ?_) (fun H3 ws s3 al e3 d3 => ?_)
      · cases ei : r[i]? with
        | none => rw [ei] at e; cases e
        | some z =>
          rw [ei, Option.bind_some] at e
          cases en : noteP z with
          | none => rw [en] at e; cases e
          | some n => rw [en] at e; cases e; rfl
      · rw [List.getElem?_map] at hi
        cases ei : r[i]? with
        | none => rw [ei] at hi; cases hi
        | some y =>
          rw [ei] at hi
          cases hi
          have my := List.mem_of_getElem? ei
          refine ⟨_, rfl, y, rfl, by have := wl y (by simp [my]); omega, fun n en p H4 e4 s4 => kF _ (nD n) H4 s4 (by rw [ei, Option.bind_some, en]; rfl) (dat_nt e4), fun en H4 s4 => ?_⟩
          exact k3 (fun z => by have := z.2 y my; rw [en] at this; cases this) H4 ((S2.trans s3).trans s4)
      rw [List.length_map] at al d3
      have al' : rowsOk r := fun y hy => by
        obtain ⟨i, hi⟩ := List.getElem?_of_mem hy
        have := al i (List.getElem?_eq_some_iff.mp hi).1
        rw [hi] at this
        simpa using this
      have ef : (List.range r.length).filterMap (fun i => (r[i]?).bind fun y => (noteP y).map nD) = (r.map noteG).map nD := by
        rw [List.map_map, ← fm_some r (nD ∘ noteG)]
        refine fm_congr _ trivial fun i hi => ?_
        cases ei : r[i]? with
        | none => rfl
        | some y =>
          obtain ⟨n, en⟩ := Option.isSome_iff_exists.mp (al' y (List.mem_of_getElem? ei))
          rw [Option.bind_some, Option.map_some, en]
          show some (nD n) = some (nD (noteG y))
          unfold noteG; rw [en]; rfl
      rw [ef] at d3
      refine ⟨(by show 2 ≤ sizeLine; decide), fun t ht => ?_⟩
      have st := same_new (o := HO.tup [V.ref c, V.ref D]) ht
      have S3 := S2.trans s3
      have R : RecAt (upd H3 t (.tup [V.ref c, V.ref D])) t c D (countsG w0) (r.map noteG) := ⟨upd_same, st _ _ (s3 _ _ (sq2 _ _ hc)), NtsAt.same ⟨_, e3, d3⟩ st⟩
      have S4 := S3.trans st
      refine ⟨_, rfl, t, c, D, _, _, rfl, R, counts_cs c0, by rw [List.length_map]; omega, fun an H4 s4 => ⟨_, rfl, k1 c0 al' an t c D H4 (R.same s4) (S4.trans s4)⟩, fun na H4 s4 => k2 c0 al' na H4 (S4.trans s4)⟩

/-! ### the law's own reading -/
theorem numV_dat {H : Hp} (o : Option Nat) : Dat H (numV o) (numD o) := by cases o <;> simp only [numV, numD, Dat]
theorem zero_one {x : Str} {c : Nat} (e0 : x.cps[0]? = some c) (hc : c = 48) : x = Str.ofString "0" ↔ x.length ≤ 1 := by
  constructor
  · rintro rfl; decide
  · intro h
    obtain ⟨⟨l⟩⟩ := x
    match l with
    | [] => simp at e0
    | [d] =>
      simp at e0
      rw [e0, hc]
      decide
    | _ :: _ :: _ => simp [Str.length] at h
theorem ok_Lnum {f : Addr} {fd : FuncData} (F : Fun K "_law_number" "_law_number" s_Lnumber f fd) (Bt : Blt mg) : FnOk P w K mg base CX0 1 f fd ["word"] (spNumOf K) := by
  refine F.ok sc_Lnumber (fun vs H Q E h => ?_) (fun cdv A outer s H vs Q E hr h => ?_)
  · obtain ⟨x, rfl, _⟩ := h
    rfl
  · obtain ⟨x, rfl, xl, k⟩ := h
    have hu64 := hr.units
    refine ⟨_, (pss_cons (ps_if (PW.pt (pw_or (pt_not (pt_chain op_le op_le pe_int (pe_callB call_lenS (by rfl) Bt.b_len bt_len (pa_cons (pv 0) pa_nil)) pe_int)) (pw_or1 (PW.pt (pw_and (pt_cmpR op_eq (pe_ix ix_str (pv 0) pe_int (fun _ _ => rfl)) pe_str (nomark _)) (pw_and1 (pt_cmpR op_ne (pv 0) pe_str (nomark _)))))))) (pss_one (ps_ret pe_non)) pss_nil)
      (pss_cons (ps_if (pt_cmpR (op_neNil (K := K) rfl hu64) (pe_comp rfl (N := ["sign"]) (own := ["sign"]) (caps := []) (CompScope.of (by kernel_rfl)) (pi_str (pv 0)) (fun _ _ _ _ => (pg_name (i := 0) (show List.Nodup (["sign"] : List Str) by decide +kernel) rfl (Or.inl rfl))) (fun _ _ _ _ => (pts_one (pt_cmpR op_notIn_str (pv 0) pe_str (by with_unfolding_all rfl)))) (fun _ _ _ _ => (pv 0))) (pe_lst pa_nil) (nomark _)) (pss_one (ps_ret pe_non)) pss_nil)
      (pss_one (ps_ret (pe_callTy call_intT (by rfl) Bt.b_int bt_int (pa_cons (pv 0) pa_nil)))))), ?_⟩
    have no : numOk x = false → ∀ H', Same H H' → Q .non H' := fun e H' s => by have := k H' s; rwa [numT_none e] at this
    have sz : x.cps.size = x.length := rfl
    have hz : x.length ≤ sizeLine := by rw [sizeLine_eq]; omega
    refine seq_cps (fun σ H' => σ = [some (.str x)] ∧ H' = H ∧ 1 ≤ x.length ∧ x.length ≤ 3 ∧ (decide (x.length ≤ 1) || !decide (x.cps[0]? = some 48)) = true) (fun D' hD' rt' => ?_) ?_
    · refine ⟨_, rfl, x, rfl, hz, _, _, rfl, rfl, _, rfl, ?_⟩
      have ret : ∀ (σ : St), numOk x = false → (tSeq (tDrop (tC .non)) tNext : TS) = tNext → D'.rt .non H := fun σ e _ => by rw [rt']; exact no e H (Same.refl _)
      by_cases h1 : 1 ≤ x.length
      rotate_left
      · rw [decide_eq_false (show ¬ ((1 : Int) ≤ (x.length : Int)) by omega)]
        refine iteF ⟨_, rfl, ?_⟩
        refine iteT (iteT ?_)
        show D'.rt .non H
        rw [rt']
        exact no (by unfold numOk; rw [decide_eq_false h1]; rfl) H (Same.refl _)
      rw [decide_eq_true (show ((1 : Int) ≤ (x.length : Int)) by omega)]
      refine iteT ⟨_, _, rfl, rfl, _, rfl, ?_⟩
      by_cases h3 : x.length ≤ 3
      rotate_left
      · rw [decide_eq_false (show ¬ ((x.length : Int) ≤ 3) by omega)]
        refine iteT (iteT ?_)
        show D'.rt .non H
        rw [rt']
        exact no (by unfold numOk; rw [decide_eq_false h3, Bool.and_false]; rfl) H (Same.refl _)
      rw [decide_eq_true (show ((x.length : Int) ≤ 3) by omega)]
      refine iteF ?_
      obtain ⟨c, ec⟩ : ∃ c, x.cps.toList[0]? = some c := ⟨_, List.getElem?_eq_getElem (by rw [len_list]; omega)⟩
      have e0 : x.cps[0]? = some c := by rw [← Array.getElem?_toList]; exact ec
      refine ⟨_, rfl, x, 0, c, rfl, rfl, hz, atI_nat (j := 0) ec, rfl, _, rfl, ?_⟩
      by_cases hc : c = 48
      · refine ite2 (fun _ => ?_) (fun z => absurd (decide_eq_true (by rw [hc]; rfl)) z)
        refine ⟨_, rfl, rfl, _, rfl, ?_⟩
        by_cases hx : x.length ≤ 1
        · have ex := (zero_one e0 hc).mpr hx
          refine ite2 (fun z => absurd z (by rw [decide_eq_true (by rw [ex])]; simp)) (fun _ => ?_)
          exact hD' _ _ ⟨rfl, rfl, h1, h3, by rw [decide_eq_true hx]; rfl⟩
        · have ex : ¬ x = Str.ofString "0" := fun z => hx ((zero_one e0 hc).mp z)
          refine ite2 (fun _ => ?_) (fun z => absurd (by rw [decide_eq_false (fun z => ex (by injection z))]; rfl) z)
          show D'.rt .non H
          rw [rt']
          exact no (by unfold numOk; rw [decide_eq_false hx, e0, hc]; simp) H (Same.refl _)
      · refine ite2 (fun z => absurd (of_decide_eq_true z) (fun w => hc (by injection w with w; have : [c] = [48] := congrArg (fun x : Str => x.cps.toList) w; simpa using this))) (fun _ => ?_)
        refine iteF ?_
        exact hD' _ _ ⟨rfl, rfl, h1, h3, by rw [e0, decide_eq_false (fun z => hc (Option.some.inj z))]; simp⟩
    · rintro σ H' ⟨rfl, rfl, h1, h3, q⟩
      refine ⟨_, rfl, x, rfl, fun D hD => ?_⟩
      refine comp_valS (fun i => (x.cps.toList[i]?).bind fun c => if (!(decide (48 ≤ c) && decide (c ≤ 57))) = true then some (V.str ⟨#[c]⟩) else none) hD (by omega) (fun m c H1 G F hc s1 kG kF => ?_) (fun H1 s1 e1 => ?_)
      · refine ⟨_, rfl, _, _, rfl, rfl, _, rfl, ?_⟩
        rw [fig_is]
        have hc' : x.cps.toList[m]? = some c := by rw [Array.getElem?_toList]; exact hc
        cases b : (decide (48 ≤ c) && decide (c ≤ 57)) with
        | true =>
          refine iteF ?_
          exact kG H1 (Same.refl _) (by rw [hc', Option.bind_some, b]; rfl)
        | false =>
          refine iteT ?_
          exact ⟨_, rfl, kF _ H1 (Same.refl _) (by rw [hc', Option.bind_some, b]; rfl)⟩
      rw [show x.cps.size = x.cps.toList.length by simp, fm_filter x.cps.toList (fun c => !(decide (48 ≤ c) && decide (c ≤ 57))) (fun c => V.str ⟨#[c]⟩)] at e1
      refine ⟨(by show 0 ≤ sizeLine; decide), fun p hp => ?_⟩
      have sp := same_new (o := HO.lst []) hp
      have eD := sp _ _ e1
      have lF := List.length_filter_le (fun c => !(decide (48 ≤ c) && decide (c ≤ 57))) x.cps.toList
      rw [len_list] at lF
      have ea : (x.cps.toList.filter fun c => !(decide (48 ≤ c) && decide (c ≤ 57))) = [] ↔ x.cps.toList.all (fun c => decide (48 ≤ c) && decide (c ≤ 57)) = true := by
        rw [List.filter_eq_nil_iff, List.all_eq_true]
        exact ⟨fun h c hc => by simpa using h c hc, fun h c hc => by simpa using h c hc⟩
      have l1 : ∀ c ∈ (x.cps.toList.filter fun c => !(decide (48 ≤ c) && decide (c ≤ 57))), c ∈ x.cps.toList := fun c hc => (List.mem_filter.mp hc).1
      generalize (x.cps.toList.filter fun c => !(decide (48 ≤ c) && decide (c ≤ 57))) = fl at eD lF ea l1
      refine ⟨D, p, _, rfl, rfl, SqL.of eD, SqL.of upd_same, _, rfl, ?_⟩
      have en : ((fl.map fun c => V.str ⟨#[c]⟩).isEmpty) = decide (fl = []) := by cases fl <;> simp
      rw [en]
      by_cases hf : fl = []
      · rw [decide_eq_true hf]
        refine iteF ?_
        have ok : numOk x = true := by unfold numOk; rw [decide_eq_true h1, decide_eq_true h3, ea.mp hf, q]; rfl
        obtain ⟨n, n1, rfl⟩ := num_canon ok
        have := k _ (s1.trans sp)
        rw [numT_nm n1] at this
        exact ⟨_, rfl, nmS n, n, rfl, nm_reads n1, by omega, this⟩
      · rw [decide_eq_false hf]
        refine iteT ?_
        exact no (by unfold numOk; rw [show x.cps.toList.all (fun c => decide (48 ≤ c) && decide (c ≤ 57)) = false from Bool.eq_false_iff.mpr fun z => hf (ea.mpr z)]; simp) _ (s1.trans sp)
theorem part_free {x : Str} (h : 46 ∉ x.cps.toList) : Txt.partition x (Str.ofString ".") = (x, Str.empty, Str.empty) := by
  have e : (Builtin.Str.occurrences x (Str.ofString ".") 0 x.length 1).isEmpty = true := by
    have : (!(Builtin.Str.occurrences x (Str.ofString ".") 0 x.length 1).isEmpty) = decide (46 ∈ x.cps.toList) := StrLaws.found_one x 46
    rw [decide_eq_false h] at this
    simpa using this
  unfold Txt.partition
  rw [List.isEmpty_iff.mp e]
theorem numT_free {x : Str} {n : Nat} (h : numT x = some n) {c : Nat} (hc : c < 48) : c ∉ x.cps.toList := by
  obtain ⟨n1, rfl⟩ := numT_some h
  exact numOk.free (nm_ok n1) hc
def touchS (l : List Str) : Option (Int × Int) := match l with
  | [a, b] => twoN (numT a) (numT b)
  | _ => none
theorem touch_split (x : Str) : touchP x = touchS (Txt.split x (Str.ofString ".")) := by
  by_cases h : 46 ∈ x.cps.toList
  · obtain ⟨a, b, rfl, ha⟩ := first_cut h
    have e : Txt.partition (a ++ ⟨#[46]⟩ ++ b) (Str.ofString ".") = (a, ⟨#[46]⟩, b) := part_of (c := 46) ha
    have jn : ∀ l, Txt.join ⟨#[46]⟩ l = Str.join ⟨#[46]⟩ l := fun l => StrLaws.glued_eq_join _ _
    unfold touchP
    rw [e]
    show twoN (numT a) (numT b) = _
    cases eb : numT b with
    | some n =>
      have hb := numT_free eb (c := 46) (by decide)
      have es : Txt.split (a ++ ⟨#[46]⟩ ++ b) (Str.ofString ".") = [a, b] := by
        have := split_of 46 (l := [a, b]) (by simp) (fun p hp => by
          rcases List.mem_cons.mp hp with rfl | hp
          · exact ha
          · rw [List.mem_singleton.mp hp]; exact hb)
        rw [glued_cons, List.map_cons, List.map_nil, cat, cat, str_append_empty, ← Str.append_assoc] at this
        exact this
      rw [es]
      show _ = twoN (numT a) (numT b)
      rw [eb]
    | none =>
      have rhs : touchS (Txt.split (a ++ ⟨#[46]⟩ ++ b) (Str.ofString ".")) = none := by
        have fr := StrLaws.split_free (a ++ ⟨#[46]⟩ ++ b) 46
        have js := StrLaws.join_split (a ++ ⟨#[46]⟩ ++ b) ⟨#[46]⟩
        show touchS (Txt.split (a ++ ⟨#[46]⟩ ++ b) ⟨#[46]⟩) = none
        generalize Txt.split (a ++ ⟨#[46]⟩ ++ b) ⟨#[46]⟩ = l at fr js
        match l with
        | [] => rfl
        | [_] => rfl
        | _ :: _ :: _ :: _ => rfl
        | [c, d] =>
          have e2 : c ++ ⟨#[46]⟩ ++ d = a ++ ⟨#[46]⟩ ++ b := by
            rw [← js, ← jn, glued_cons, List.map_cons, List.map_nil, cat, cat, str_append_empty, Str.append_assoc]
          have p1 := part_of (c := 46) (b := d) (fr c (by simp))
          rw [e2, part_of (c := 46) ha] at p1
          have hd : b = d := by injection p1 with _ z; injection z
          show twoN (numT c) (numT d) = none
          rw [← hd, eb]
          exact twoN_none _
      rw [rhs]
      exact twoN_none _
  · have es : Txt.split x (Str.ofString ".") = [x] := by
      have := split_of 46 (l := [x]) (by simp) (fun p hp => by rw [List.mem_singleton.mp hp]; exact h)
      rw [glued_cons, List.map_nil, cat, str_append_empty] at this
      exact this
    unfold touchP
    rw [part_free h, es]
    show twoN (numT x) (numT Str.empty) = none
    rw [show numT Str.empty = none from rfl]
    exact twoN_none _
def touchD : Option (Int × Int) → PyData
  | some p => .tuple [.int p.1, .int p.2]
  | none => .none
def spTouchL (K : PySem.W.Frag) : Sp := fun vs H Q _ => ∃ x : Str, vs = [.str x] ∧ x.length ≤ 90000 ∧ ∀ (v : V) (H' : Hp), Dat H' v (touchD (touchP x)) → Same H H' → Q v H'
theorem nums_dats {H : Hp} : ∀ l : List (Option Nat), Dats H (l.map numV) (l.map numD)
  | [] => by simp only [List.map_nil, Dats]
  | o :: l => by simp only [List.map_cons, Dats]; exact ⟨numV_dat o, nums_dats l⟩
theorem none_in : ∀ l : List (Option Nat), ((l.map numD).any fun e => PyData.eqv e .none) = l.any (·.isNone)
  | [] => rfl
  | o :: l => by
    rw [List.map_cons, List.any_cons, List.any_cons, none_in l]
    cases o <;> rfl
theorem ok_Ltouch {f : Addr} {fd : FuncData} (F : Fun K "_law_touch" "_law_touch" s_Ltouch f fd) (F_Lnumber : FnAt P w K mg base 1 "_law_number" ["word"] (spNumOf K)) (Bt : Blt mg) : FnOk P w K mg base CX0 2 f fd ["word"] (spTouchL K) := by
  refine F.ok sc_Ltouch (fun vs H Q E h => ?_) (fun cdv A outer s H vs Q E hr h => ?_)
  · obtain ⟨x, rfl, _⟩ := h
    rfl
  · obtain ⟨x, rfl, xl, k⟩ := h
    have hu64 := hr.units
    refine ⟨_, (pss_cons (ps_setC (i := 1) rfl sc_Ltouch.nd rfl (Or.inl rfl) (N := ["part"]) (own := ["part"]) (caps := []) (CompScope.of (by kernel_rfl)) (pi_listK (K := K) rfl (pe_bmK (K := K) rfl PySem.F.plainAttrs_str PySem.F.slot_str_split PySem.F.type_str_split mt_split (pv 0) (pa_cons pe_str pa_nil))) (fun _ _ _ _ => (pg_name (i := 0) (show List.Nodup (["part"] : List Str) by decide +kernel) rfl (Or.inl rfl))) (fun _ _ _ _ => pts_nil) (fun _ _ _ _ => (pe_fn F_Lnumber (hr.mono (by decide)) (by rfl) (pa_cons (pv 0) pa_nil))))
      (pss_cons (ps_if (PW.pt (pw_or (pt_cmpR op_ne (pe_callB (call_len_seqK (K := K) rfl) (by rfl) Bt.b_len bt_len (pa_cons (pv 1) pa_nil)) pe_int (nomark _)) (pw_or1 (pt_cmpR (op_inDK (K := K) rfl hr.units1) pe_non (pv 1) (by with_unfolding_all rfl))))) (pss_one (ps_ret pe_non)) pss_nil)
      (pss_one (ps_ret (pe_callTy call_tuple_of (by rfl) Bt.b_tuple bt_tuple (pa_cons (pv 1) pa_nil)))))), ?_⟩
    have tl := tot_len (Txt.split x (Str.ofString "."))
    rw [tot_split x (Str.ofString ".") rfl] at tl
    have wl : ∀ w ∈ Txt.split x (Str.ofString "."), w.length ≤ x.length := fun w hw => split_le (c := 46) hw
    rw [touch_split] at k
    refine ⟨_, rfl, rfl, _, _, rfl, rfl, rfl, by rw [sizeLine_eq]; omega, fun q hq => ?_⟩
    generalize Txt.split x (Str.ofString ".") = ws at tl wl k ⊢
    have sq := same_new (o := HO.lst (ws.map V.str)) hq
    refine ⟨q, rfl, ⟨_, SqL.of upd_same⟩, fun D hD => ?_⟩
    refine comp_val (K := K) (fun i => (ws[i]?).map fun w => numV (numT w)) hD (SqL.of upd_same) (by rw [List.length_map]; omega) (fun i v H3 G F hi s3 kG kF => ?_) (fun H3 s3 e3 => ?_)
    · rw [List.getElem?_map] at hi
      cases ei : ws[i]? with
      | none => rw [ei] at hi; cases hi
      | some y =>
        rw [ei] at hi
        cases hi
        exact ⟨_, rfl, y, rfl, by have := wl y (List.mem_of_getElem? ei); omega, fun H4 s4 => kF _ H4 s4 (by rw [ei]; rfl)⟩
    rw [List.length_map, fm_some] at e3
    have S3 := sq.trans s3
    refine ⟨_, rfl, D, _, rfl, .inl (SqL.of e3), rfl, _, rfl, ?_⟩
    rw [List.length_map]
    by_cases h2 : ws.length = 2
    rotate_left
    · refine ite2 (fun _ => iteT ?_) (fun z => absurd (by rw [decide_eq_false (fun z => h2 (by injection z with z; omega))]; rfl) z)
      refine k .non H3 ?_ S3
      have : touchS ws = none := by
        unfold touchS
        split
        · simp at h2
        · rfl
      rw [this]
      simp only [touchD, Dat]
    match ws, h2 with
    | [a, b], _ =>
      refine ite2 (fun z => absurd z (by simp)) (fun _ => ?_)
      have e3' : H3 D = some (.lst ([numT a, numT b].map numV)) := e3
      refine ⟨_, rfl, D, _, .none, _, rfl, SqL.of e3', nums_dats [numT a, numT b], by simp only [Dat], rfl, fun e he => ?_, ?_⟩
      · obtain ⟨o, _, rfl⟩ := List.mem_map.mp he
        cases o <;> rfl
      rw [if_neg Bool.false_ne_true, none_in]
      refine ⟨_, rfl, ?_⟩
      have kt : touchS [a, b] = twoN (numT a) (numT b) := rfl
      rw [kt] at k
      cases ea : numT a with
      | none =>
        refine iteT ?_
        rw [ea] at k
        exact k .non H3 (by simp only [twoN, touchD, Dat]) S3
      | some na =>
        cases eb : numT b with
        | none =>
          refine iteT ?_
          rw [ea, eb] at k
          exact k .non H3 (by simp only [twoN, touchD, Dat]) S3
        | some nb =>
          refine iteF ?_
          rw [ea, eb] at k e3'
          refine ⟨_, rfl, D, _, rfl, .inl ⟨SqL.of e3', fun t ht => ?_⟩⟩
          refine k _ _ ?_ (S3.trans (same_new ht))
          simp only [twoN, touchD, Dat]
          exact ⟨t, _, rfl, upd_same, by simp only [List.map_cons, List.map_nil, numV, Dats, Dat, and_self]⟩

theorem noteP_nn {x : Str} {n : Nt} (h : noteP x = some n) : 0 ≤ n.1 ∧ 0 ≤ n.2.1 ∧ 0 ≤ n.2.2.1 ∧ 0 ≤ n.2.2.2 := by
  have tn : ∀ {a b : Option Nat} {p : Int × Int}, twoN a b = some p → 0 ≤ p.1 ∧ 0 ≤ p.2 := fun {a b p} h => by
    cases a with
    | none => cases h
    | some a => cases b with
      | none => cases h
      | some b => cases h; exact ⟨Int.natCast_nonneg _, Int.natCast_nonneg _⟩
  unfold noteP at h
  split at h
  · rename_i a b _
    cases ea : touchP a with
    | none => rw [ea] at h; cases h
    | some p =>
      cases eb : touchP b with
      | none => rw [ea, eb] at h; cases h
      | some q =>
        rw [ea, eb] at h
        cases h
        have h1 := tn ea
        have h2 := tn eb
        exact ⟨h1.1, h1.2, h2.1, h2.2⟩
  · cases h
theorem inV_non : ∀ l : List (Option Nat), inV .non (l.map numV) = l.any (·.isNone)
  | [] => rfl
  | o :: l => by
    show (eqV _ _ || inV .non (l.map numV)) = (o.isNone || l.any (·.isNone))
    rw [inV_non l]
    cases o <;> rfl
theorem flat_num : ∀ l : List (Option Nat), (l.map numV).all flatV = true
  | [] => rfl
  | o :: l => by
    rw [List.map_cons, List.all_cons, flat_num l]
    cases o <;> rfl
theorem numV_some {l : List Str} (h : ∀ w ∈ l, (numT w).isSome = true) : l.map (fun w => numV (numT w)) = (l.map numI).map V.int := by
  rw [List.map_map]
  refine List.map_congr_left fun w hw => ?_
  obtain ⟨n, e⟩ := Option.isSome_iff_exists.mp (h w hw)
  show numV (numT w) = V.int (numI w)
  unfold numI
  rw [e]; rfl
theorem none_inT : ∀ l : List (Option (Int × Int)), ((l.map touchD).any fun e => PyData.eqv e .none) = l.any (·.isNone)
  | [] => rfl
  | o :: l => by
    rw [List.map_cons, List.any_cons, List.any_cons, none_inT l]
    cases o <;> rfl
theorem touch_inv {H : Hp} {v : V} {p : Int × Int} (h : Dat H v (touchD (some p))) : ∃ t, v = .ref t ∧ H t = some (.tup [.int p.1, .int p.2]) := by
  simp only [touchD, Dat] at h
  obtain ⟨t, vs, e, q, d⟩ := h
  match vs, d with
  | [a, b], d =>
    simp only [Dats, Dat, and_true] at d
    obtain ⟨rfl, rfl⟩ := d
    exact ⟨t, e, q⟩
  | [], d => simp only [Dats] at d
  | [_], d => simp only [Dats, and_false] at d
  | _ :: _ :: _ :: _, d => simp only [Dats, and_false] at d
def spDue64 (K : PySem.W.Frag) : Sp := fun vs H Q _ => ∃ x : Str, vs = [.str x] ∧ x.length ≤ 80000 ∧
  (countsOk (rowOne x) → rowsOk (rowsT x) → AllNt (countsG (rowOne x)) ((rowsT x).map noteG) → ∀ (t c a : Addr) (H' : Hp), RecAt H' t c a (countsG (rowOne x)) ((rowsT x).map noteG) → Same H H' → Q (.ref t) H') ∧
  (countsOk (rowOne x) → rowsOk (rowsT x) → ¬ AllNt (countsG (rowOne x)) ((rowsT x).map noteG) → ∀ H', Same H H' → Q (.int 8) H') ∧
  (¬ (countsOk (rowOne x) ∧ rowsOk (rowsT x)) → ∀ H', Same H H' → Q (.int 12) H')
theorem ok_Ldue {f : Addr} {fd : FuncData} (F : Fun K "_law_due" "_law_due" s_Ldue f fd) (F_Lnumber : FnAt P w K mg base 1 "_law_number" ["word"] (spNumOf K)) (F_Ltouch : FnAt P w K mg base 2 "_law_touch" ["word"] (spTouchL K)) (Bt : Blt mg) : FnOk P w K mg base CX0 3 f fd ["text"] (spDue64 K) := by
  refine F.ok sc_Ldue (fun vs H Q E h => ?_) (fun cdv A outer s H vs Q E hr h => ?_)
  · obtain ⟨x, rfl, _⟩ := h
    rfl
  · obtain ⟨x, rfl, xl, k1, k2, k3⟩ := h
    have hu64 := hr.units
    refine ⟨_, (pss_cons (ps_set (i := 1) sc_Ldue.nd rfl (Or.inl rfl) (pe_bmK (K := K) rfl PySem.F.plainAttrs_str PySem.F.slot_str_split PySem.F.type_str_split mt_split (pv 0) (pa_cons pe_str pa_nil)))
      (pss_cons (ps_set (i := 2) sc_Ldue.nd rfl (Or.inl rfl) (pe_bmK (K := K) rfl PySem.F.plainAttrs_str PySem.F.slot_str_split PySem.F.type_str_split mt_split (pe_ix (ix_listK (K := K) rfl) (pv 1) pe_int (fun _ _ => rfl)) (pa_cons pe_str pa_nil)))
      (pss_cons (ps_setC (i := 3) rfl sc_Ldue.nd rfl (Or.inl rfl) (N := ["word"]) (own := ["word"]) (caps := []) (CompScope.of (by kernel_rfl)) (pi_listK (K := K) rfl (pe_slice (sl_listK (K := K) rfl) (pv 2) (po_some pe_int) po_none)) (fun _ _ _ _ => (pg_name (i := 0) (show List.Nodup (["word"] : List Str) by decide +kernel) rfl (Or.inl rfl))) (fun _ _ _ _ => pts_nil) (fun _ _ _ _ => (pe_fn F_Lnumber (hr.mono (by decide)) (by rfl) (pa_cons (pv 0) pa_nil))))
      (pss_cons (ps_if (PW.pt (pw_or (pt_cmpR op_ne (pe_ix (ix_listK (K := K) rfl) (pv 2) pe_int (fun _ _ => rfl)) pe_str (nomark _)) (pw_or (pt_cmpR op_gt (pe_callB (call_len_seqK (K := K) rfl) (by rfl) Bt.b_len bt_len (pa_cons (pv 2) pa_nil)) pe_int (nomark _)) (pw_or (pt_cmpR (op_in_seqK (K := K) rfl) pe_non (pv 3) (by with_unfolding_all rfl)) (pw_or1 (pt_cmpR op_gt (pe_callB (call_sumK (K := K) rfl rfl) (by rfl) Bt.b_sum bt_sum (pa_cons (pv 3) pa_nil)) pe_int (nomark _))))))) (pss_one (ps_ret pe_int)) pss_nil)
      (pss_cons (ps_set (i := 4) sc_Ldue.nd rfl (Or.inl rfl) (pe_lst pa_nil))
      (pss_cons (ps_for PassesOwn.never rfl (pi_listK (K := K) rfl (pe_slice (sl_listK (K := K) rfl) (pv 1) (po_some pe_int) po_none)) (pg_name (i := 5) sc_Ldue.nd rfl (Or.inl rfl))
      (pss_cons (ps_setC (i := 6) rfl sc_Ldue.nd rfl (Or.inl rfl) (N := ["word"]) (own := ["word"]) (caps := []) (CompScope.of (by kernel_rfl)) (pi_listK (K := K) rfl (pe_bmK (K := K) rfl PySem.F.plainAttrs_str PySem.F.slot_str_split PySem.F.type_str_split mt_split (pv 5) (pa_cons pe_str pa_nil))) (fun _ _ _ _ => (pg_name (i := 0) (show List.Nodup (["word"] : List Str) by decide +kernel) rfl (Or.inl rfl))) (fun _ _ _ _ => pts_nil) (fun _ _ _ _ => (pe_fn F_Ltouch (hr.mono (by decide)) (by rfl) (pa_cons (pv 0) pa_nil))))
      (pss_cons (ps_if (PW.pt (pw_or (pt_cmpR op_ne (pe_callB (call_len_seqK (K := K) rfl) (by rfl) Bt.b_len bt_len (pa_cons (pv 6) pa_nil)) pe_int (nomark _)) (pw_or1 (pt_cmpR (op_inDK (K := K) rfl hr.units1) pe_non (pv 6) (by with_unfolding_all rfl))))) (pss_one (ps_ret pe_int)) pss_nil)
      (pss_one (ps_expr (pe_appendK (K := K) rfl (pv 4) (pa_cons (pe_op op_catTU (pe_ix (ix_listK (K := K) rfl) (pv 6) pe_int (fun _ _ => rfl)) (pe_ix (ix_listK (K := K) rfl) (pv 6) pe_int (fun _ _ => rfl))) pa_nil)))))))
      (pss_cons (ps_for PassesOwn.never rfl (pi_listK (K := K) rfl (pv 4)) (pg_tupK (K := K) (n := 4) rfl rfl (pgs_cons (pg_name (i := 7) sc_Ldue.nd rfl (Or.inl rfl)) (pgs_cons (pg_name (i := 8) sc_Ldue.nd rfl (Or.inl rfl)) (pgs_cons (pg_name (i := 9) sc_Ldue.nd rfl (Or.inl rfl)) (pgs_cons (pg_name (i := 10) sc_Ldue.nd rfl (Or.inl rfl)) pgs_nil)))))
      (pss_cons (ps_if (PW.pt (pw_or (pt_cmpR op_ge (pv 7) (pe_callB (call_len_seqK (K := K) rfl) (by rfl) Bt.b_len bt_len (pa_cons (pv 3) pa_nil)) (nomark _)) (pw_or (pt_cmpR op_ge (pv 9) (pe_callB (call_len_seqK (K := K) rfl) (by rfl) Bt.b_len bt_len (pa_cons (pv 3) pa_nil)) (nomark _)) (pw_or1 (pt_cmpR op_eq (pv 7) (pv 9) (nomark _)))))) (pss_one (ps_ret pe_int)) pss_nil)
      (pss_one (ps_if (PW.pt (pw_or (pt_cmpR op_ge (pv 8) (pe_ix (ix_listK (K := K) rfl) (pv 3) (pv 7) (fun _ _ => rfl)) (nomark _)) (pw_or1 (pt_cmpR op_ge (pv 10) (pe_ix (ix_listK (K := K) rfl) (pv 3) (pv 9) (fun _ _ => rfl)) (nomark _))))) (pss_one (ps_ret pe_int)) pss_nil))))
      (pss_one (ps_ret (pe_tup (pa_cons (pv 3) (pa_cons (pv 4) pa_nil)))))))))))), ?_⟩
    have tl := tot_len (Txt.split x (Str.ofString "\n"))
    rw [tot_split x (Str.ofString "\n") rfl] at tl
    have wl : ∀ w ∈ Txt.split x (Str.ofString "\n"), w.length ≤ x.length := fun w hw => split_le (c := 10) hw
    have ne := split_ne x (Str.ofString "\n")
    unfold rowOne rowsT at k1 k2 k3
    refine ⟨_, rfl, rfl, _, _, rfl, rfl, rfl, by rw [sizeLine_eq]; omega, fun q hq => ?_⟩
    generalize Txt.split x (Str.ofString "\n") = ws at tl wl ne k1 k2 k3 ⊢
    match ws, ne with
    | w0 :: r, _ =>
    rw [List.tail_cons, show (w0 :: r).headD Str.empty = w0 from rfl] at k1 k2 k3
    rw [List.map_cons]
    rw [List.length_cons] at tl
    have w0l := wl w0 (by simp)
    have rl : ∀ y ∈ r, y.length ≤ x.length := fun y hy => wl y (by simp [hy])
    clear wl
    have sq := same_new (o := HO.lst (V.str w0 :: r.map V.str)) hq
    have eq0 : (upd H q (.lst (V.str w0 :: r.map V.str))) q = some (.lst (V.str w0 :: r.map V.str)) := upd_same
    generalize upd H q (.lst (V.str w0 :: r.map V.str)) = H1 at sq eq0 ⊢
    -- words
    have tl2 := tot_len (Txt.split w0 (Str.ofString " "))
    rw [tot_split w0 (Str.ofString " ") rfl] at tl2
    have wl2 : ∀ w ∈ Txt.split w0 (Str.ofString " "), w.length ≤ w0.length := fun w hw => split_le (c := 32) hw
    have ne2 := split_ne w0 (Str.ofString " ")
    unfold countsOk at k1 k2 k3
    unfold countsG at k1 k2
    refine ⟨_, rfl, _, _, _, _, rfl, rfl, SqL.of eq0, atI_nat (j := 0) rfl, rfl, _, _, rfl, rfl, rfl, by rw [sizeLine_eq]; omega, fun p2 hp2 => ?_⟩
    generalize Txt.split w0 (Str.ofString " ") = cs0 at tl2 wl2 ne2 k1 k2 k3 ⊢
    match cs0, ne2 with
    | c0 :: cr, _ =>
    rw [List.tail_cons] at k1 k2 k3
    rw [List.map_cons]
    rw [List.length_cons] at tl2
    have s2 := same_new (o := HO.lst (V.str c0 :: cr.map V.str)) hp2
    have e2 : (upd H1 p2 (.lst (V.str c0 :: cr.map V.str))) p2 = some (.lst (V.str c0 :: cr.map V.str)) := upd_same
    generalize upd H1 p2 (.lst (V.str c0 :: cr.map V.str)) = H2 at s2 e2 ⊢
    have S2 := sq.trans s2
    have eq2 := s2 _ _ eq0
    -- counts
    refine ⟨_, rfl, _, rfl, _, _, rfl, SqL.of e2, fun p3 hp3 => ?_⟩
    rw [cut_tail]
    have s3 := same_new (o := HO.lst (cr.map V.str)) hp3
    refine ⟨p3, rfl, ⟨_, SqL.of upd_same⟩, fun D hD => ?_⟩
    refine comp_val (K := K) (fun i => (cr[i]?).map fun w => numV (numT w)) hD (SqL.of upd_same) (by rw [List.length_map]; omega) (fun i v H3 G F hi s4 kG kF => ?_) (fun H3 s4 e4 => ?_)
    · rw [List.getElem?_map] at hi
      cases ei : cr[i]? with
      | none => rw [ei] at hi; cases hi
      | some y =>
        rw [ei] at hi
        cases hi
        exact ⟨_, rfl, y, rfl, by have := wl2 y (by simp [List.mem_of_getElem? ei]); omega, fun H4 s5 => kF _ H4 s5 (by rw [ei]; rfl)⟩
    rw [List.length_map, fm_some] at e4
    have S3 := (S2.trans s3).trans s4
    have eq3 := s4 _ _ (s3 _ _ eq2)
    have e23 := s4 _ _ (s3 _ _ e2)
    have bad : ¬ ((∃ r', c0 :: cr = Str.ofString "counts" :: r') ∧ (∀ w ∈ cr, (numT w).isSome = true) ∧ cr.length ≤ 8 ∧ (cr.map numI).sum ≤ 300) → Q (.int 12) H3 := fun z => k3 (fun y => z y.1) H3 S3
    refine ⟨_, rfl, _, _, _, _, rfl, rfl, SqL.of e23, atI_nat (j := 0) rfl, rfl, _, rfl, ?_⟩
    by_cases h0 : c0 = Str.ofString "counts"
    rotate_left
    · refine ite2 (fun _ => iteT ?_) (fun z => absurd (by rw [decide_eq_false (fun z => h0 (by injection z))]; rfl) z)
      exact bad fun ⟨⟨r', e⟩, _⟩ => h0 (List.cons.inj e).1
    subst h0
    refine ite2 (fun z => absurd z (by decide)) (fun _ => ?_)
    refine ⟨_, rfl, p2, _, rfl, .inl (SqL.of e23), _, _, rfl, rfl, _, rfl, ?_⟩
    rw [List.length_cons, List.length_map]
    by_cases h8 : cr.length ≤ 8
    rotate_left
    · rw [decide_eq_true (show ((9 : Int) < ((cr.length + 1 : Nat) : Int)) by omega)]
      refine iteT (iteT ?_)
      exact bad fun z => h8 z.2.2.1
    rw [decide_eq_false (show ¬ ((9 : Int) < ((cr.length + 1 : Nat) : Int)) by omega)]
    refine iteF ?_
    have e4' : H3 D = some (.lst ((cr.map numT).map numV)) := by rw [e4, List.map_map]; rfl
    refine ⟨_, rfl, D, _, rfl, .inl (SqL.of e4'), rfl, flat_num _, _, rfl, ?_⟩
    rw [if_neg Bool.false_ne_true, inV_non]
    by_cases hn : ∀ w ∈ cr, (numT w).isSome = true
    rotate_left
    · have : (cr.map numT).any (·.isNone) = true := by
        rw [List.any_map, List.any_eq_true]
        obtain ⟨w, hw⟩ := Classical.not_forall.mp hn
        obtain ⟨hw, hs⟩ := Classical.not_imp.mp hw
        exact ⟨w, hw, by simpa using hs⟩
      rw [this]
      refine iteT (iteT ?_)
      exact bad fun z => hn z.2.1
    have : (cr.map numT).any (·.isNone) = false := by
      rw [List.any_map, List.any_eq_false]
      intro w hw
      have := hn w hw
      simp only [Function.comp, Bool.not_eq_true, Option.isNone_eq_false_iff]
      exact this
    rw [this]
    refine iteF ?_
    rw [numV_some hn] at e4
    refine ⟨_, rfl, D, _, rfl, SqL.of e4, _, _, rfl, rfl, _, rfl, ?_⟩
    by_cases h3 : (cr.map numI).sum ≤ 300
    rotate_left
    · rw [decide_eq_true (show ((300 : Int) < (cr.map numI).sum) by omega)]
      refine iteT ?_
      exact bad fun z => h3 z.2.2.2
    rw [decide_eq_false (show ¬ ((300 : Int) < (cr.map numI).sum) by omega)]
    refine iteF ?_
    have cok : (∃ r', Str.ofString "counts" :: cr = Str.ofString "counts" :: r') ∧ (∀ w ∈ cr, (numT w).isSome = true) ∧ cr.length ≤ 8 ∧ (cr.map numI).sum ≤ 300 := ⟨⟨_, rfl⟩, hn, h8, h3⟩
    have k1 := k1 cok
    have k2 := k2 cok
    have k3 : ¬ rowsOk r → ∀ H', Same H H' → Q (.int 12) H' := fun z => k3 fun y => z y.2
    have csl : (cr.map numI).length ≤ 8 := by rw [List.length_map]; exact h8
    generalize cr.map numI = cs at k1 k2 e4 csl
    clear bad e4' this h3 hn h8 wl2 tl2
    unfold tNext
    dsimp only
    -- ties
    refine ⟨(by show 0 ≤ sizeLine; decide), fun T hT => ?_⟩
    have sT := same_new (o := HO.lst []) hT
    have eT : (upd H3 T (.lst [])) T = some (.lst []) := upd_same
    have S4 := S3.trans sT
    have eq4 := sT _ _ eq3
    have e5 := sT _ _ e4
    have nTD : D ≠ T := ne_of_none e4 hT
    generalize upd H3 T (.lst []) = H4 at sT eT S4 eq4 e5 ⊢
    have hT0 : H T = none := same_none S3 hT
    refine ⟨_, rfl, _, rfl, _, _, rfl, SqL.of eq4, fun p6 hp6 => ?_⟩
    rw [cut_tail]
    have s6 := same_new (o := HO.lst (r.map V.str)) hp6
    have e6 : (upd H4 p6 (.lst (r.map V.str))) p6 = some (.lst (r.map V.str)) := upd_same
    have S6 := S4.trans s6
    have e56 := s6 _ _ e5
    have eT6 := s6 _ _ eT
    have n6T : p6 ≠ T := (ne_of_none eT hp6).symm
    generalize upd H4 p6 (.lst (r.map V.str)) = H5 at s6 e6 S6 e56 eT6 ⊢
    refine ⟨p6, rfl, ⟨_, SqL.of e6⟩, ?_⟩
    refine for_list (K := K) (a := p6) (xs := r.map V.str) (fun i σ Hi => ∃ (x5 x6 x7 x8 x9 x10 : Option V) (vs : List V), σ = [some (.str x), some (.ref q), some (.ref p2), some (.ref D), some (.ref T), x5, x6, x7, x8, x9, x10] ∧ Kp T H5 Hi ∧ Hi T = some (.lst vs) ∧ Dats Hi vs ((r.take i).map fun y => nD (noteG y)) ∧ rowsOk (r.take i))
      ⟨none, none, none, none, none, none, [], rfl, Kp.refl _ _, eT6, by simp only [List.take_zero, List.map_nil, Dats], fun y hy => by simp at hy⟩ (fun i σ Hi _ ⟨_, _, _, _, _, _, _, _, kp, _⟩ => SqL.of (kp _ _ e6 n6T)) ?_ ?_
    · rintro i v σ Hi hi ⟨x5, x6, x7, x8, x9, x10, vs, rfl, kp, eTi, dv, ro⟩
      rw [List.getElem?_map] at hi
      cases ei : r[i]? with
      | none => rw [ei] at hi; cases hi
      | some y =>
      rw [ei] at hi
      cases hi
      have hy := List.mem_of_getElem? ei
      have yl := rl y hy
      have il : i < r.length := (List.getElem?_eq_some_iff.mp ei).1
      have SH : Same H Hi := fun b o e => kp _ _ (S6 _ _ e) (ne_of_none e hT0)
      have tl3 := tot_len (Txt.split y (Str.ofString " "))
      rw [tot_split y (Str.ofString " ") rfl] at tl3
      have wl3 : ∀ w ∈ Txt.split y (Str.ofString " "), w.length ≤ y.length := fun w hw => split_le (c := 32) hw
      have eN : noteP y = match Txt.split y (Str.ofString " ") with | [a, b] => two (touchP a) (touchP b) | _ => none := rfl
      refine ⟨_, rfl, rfl, _, _, rfl, rfl, rfl, by rw [sizeLine_eq]; omega, fun p7 hp7 => ?_⟩
      generalize Txt.split y (Str.ofString " ") = ys at tl3 wl3 eN ⊢
      have s7 := same_new (o := HO.lst (ys.map V.str)) hp7
      refine ⟨p7, rfl, ⟨_, SqL.of upd_same⟩, fun D2 hD2 => ?_⟩
      refine comp_datL (K := K) (fun i => (ys[i]?).map fun w => touchD (touchP w)) (fun i d e => ?_) hD2 (SqL.of upd_same) (by rw [List.length_map]; omega) (fun j v H6 G F hj s8 kG kF => ?_) (fun H6 ts s8 e8 d8 => ?_)
      · cases ej : ys[i]? with
        | none => rw [ej] at e; cases e
        | some w => rw [ej] at e; cases e; show imm (touchD (touchP w)) = true; cases touchP w <;> rfl
      · rw [List.getElem?_map] at hj
        cases ej : ys[j]? with
        | none => rw [ej] at hj; cases hj
        | some w =>
          rw [ej] at hj
          cases hj
          exact ⟨_, rfl, w, rfl, by have := wl3 w (List.mem_of_getElem? ej); omega, fun v H7 dw s9 => kF _ _ H7 s9 (by rw [ej]; rfl) dw⟩
      rw [List.length_map, fm_some] at d8
      have d8 : Dats H6 ts ((ys.map touchP).map touchD) := by rw [List.map_map]; exact d8
      have S8 := s7.trans s8
      have tsl : ts.length = ys.length := by rw [d8.length, List.length_map, List.length_map]
      have eT8 := S8 _ _ eTi
      have no : noteP y = none → Q (.int 12) H6 := fun z => k3 (fun w => by have := w y hy; rw [z] at this; cases this) H6 (SH.trans S8)
      refine ⟨_, rfl, D2, _, rfl, .inl (SqL.of e8), rfl, _, rfl, ?_⟩
      by_cases h2 : ys.length = 2
      rotate_left
      · refine ite2 (fun _ => iteT ?_) (fun z => absurd (by rw [decide_eq_false (fun z => h2 (by injection z with z; omega))]; rfl) z)
        refine no (eN.trans ?_)
        split
        · simp at h2
        · rfl
      match ys, h2 with
      | [a, b], _ =>
      refine ite2 (fun z => absurd z (by rw [tsl]; simp)) (fun _ => ?_)
      have eN : noteP y = two (touchP a) (touchP b) := eN
      refine ⟨_, rfl, D2, ts, .none, _, rfl, SqL.of e8, d8, by simp only [Dat], rfl, fun e he => ?_, ?_⟩
      · obtain ⟨o, _, rfl⟩ := List.mem_map.mp he
        cases o <;> rfl
      rw [if_neg Bool.false_ne_true, none_inT]
      refine ⟨_, rfl, ?_⟩
      have d8 : Dats H6 ts [touchD (touchP a), touchD (touchP b)] := d8
      show if ((touchP a).isNone || ((touchP b).isNone || false)) = true then _ else _
      cases ea : touchP a with
      | none => exact iteT (no (by rw [eN, ea]; rfl))
      | some pa =>
      cases eb : touchP b with
      | none => exact iteT (no (by rw [eN, ea, eb]; rfl))
      | some pb =>
      refine iteF ?_
      rw [ea, eb] at eN d8
      match ts, d8 with
      | [u1, u2], d8 =>
      simp only [Dats, and_true] at d8
      obtain ⟨t1, rfl, h1⟩ := touch_inv d8.1
      obtain ⟨t2, rfl, h2⟩ := touch_inv d8.2
      refine ⟨_, rfl, .inl ⟨rfl, _, SqL.of eT8⟩, _, rfl, _, _, _, _, rfl, rfl, SqL.of e8, atI_nat (j := 0) rfl, _, rfl, _, _, _, _, rfl, rfl, SqL.of e8, atI_nat (j := 1) rfl, t1, t2, _, _, rfl, rfl, h1, h2, (by show 4 ≤ sizeLine; decide), fun p9 H9 e9 s9 => ?_⟩
      have eT9 := s9 _ _ eT8
      have vl : vs.length = i := by rw [dv.length, List.length_map, List.length_take]; omega
      refine ⟨T, _, _, rfl, rfl, eT9, by rw [sizeLine_eq]; omega, ?_⟩
      have kpT : Kp T H9 (upd H9 T (.lst (vs ++ [.ref p9]))) := Kp.set
      have tp := kpT.tups eT9
      have gN : noteG y = (pa.1, pa.2, pb.1, pb.2) := by unfold noteG; rw [eN]; rfl
      refine ⟨_, _, _, _, _, _, _, rfl, fun c o e n => kpT _ _ (s9 _ _ (S8 _ _ (kp _ _ e n))) n, upd_same, ?_, ?_⟩
      · rw [List.take_succ, ei, Option.toList_some, List.map_append]
        refine dats_snoc (Dats.keep (fun a xs h => tp _ _ (s9.tups _ _ (S8.tups _ _ h))) _ (imms_map _ (fun y => rfl) _) dv) ?_
        have : Dat H9 (.ref p9) (nD (noteG y)) := dat_nt (by rw [gN]; exact e9)
        exact Dat.keep tp _ rfl this
      · rw [List.take_succ, ei, Option.toList_some]
        intro z hz
        rcases List.mem_append.mp hz with hz | hz
        · exact ro z hz
        · rw [List.mem_singleton.mp hz, eN]; rfl
    · rintro σ Hi ⟨x5, x6, x7, x8, x9, x10, vs, rfl, kp, eTi, dv, ro⟩
      rw [List.length_map, List.take_length] at dv ro
      have SH : Same H Hi := fun b o e => kp _ _ (S6 _ _ e) (ne_of_none e hT0)
      have eDi := kp _ _ e56 nTD
      have k1 := k1 ro
      have k2 := k2 ro
      have nn : ∀ z ∈ r.map noteG, 0 ≤ z.1 ∧ 0 ≤ z.2.1 ∧ 0 ≤ z.2.2.1 ∧ 0 ≤ z.2.2.2 := fun z hz => by
        obtain ⟨y, hy, rfl⟩ := List.mem_map.mp hz
        obtain ⟨n, en⟩ := Option.isSome_iff_exists.mp (ro y hy)
        have e : noteG y = n := by unfold noteG; rw [en]; rfl
        rw [e]
        exact noteP_nn en
      have dv : Dats Hi vs ((r.map noteG).map nD) := by rw [List.map_map]; exact dv
      generalize r.map noteG = ns at k1 k2 nn dv
      have N : NtsAt Hi T ns := ⟨vs, eTi, dv⟩
      refine ⟨_, rfl, T, rfl, ⟨_, SqL.of eTi⟩, ?_⟩
      refine for_list (K := K) (a := T) (xs := vs) (fun i σ Hj => Hj = Hi ∧ (∃ (x5 x6 x7 x8 x9 x10 : Option V), σ = [some (.str x), some (.ref q), some (.ref p2), some (.ref D), some (.ref T), x5, x6, x7, x8, x9, x10]) ∧ ∀ z ∈ ns.take i, NtOk cs z)
        ⟨rfl, ⟨_, _, _, _, _, _, rfl⟩, fun z hz => by simp at hz⟩ (fun i σ Hj _ ⟨e, _⟩ => by rw [e]; exact SqL.of eTi) ?_ ?_
      · rintro i v σ Hj hi ⟨rfl, ⟨x5, x6, x7, x8, x9, x10, rfl⟩, al⟩
        obtain ⟨z, t, ez, rfl, ht⟩ := nts_get dv hi
        have zm := List.mem_of_getElem? ez
        obtain ⟨z1, z2, z3, z4⟩ := nn z zm
        have no : ¬ NtOk cs z → Q (.int 8) Hj := fun w => k2 (fun al => w (al z zm)) Hj SH
        refine ⟨t, _, rfl, SqT.of ht, rfl, _, _, rfl, _, _, rfl, _, _, rfl, _, _, rfl, rfl, ?_⟩
        refine ⟨_, rfl, _, rfl, D, _, rfl, .inl (SqL.of eDi), _, _, rfl, rfl, _, rfl, ?_⟩
        rw [List.length_map]
        by_cases q1 : z.1 < cs.length
        rotate_left
        · rw [decide_eq_true (show ((cs.length : Int) ≤ z.1) by omega)]
          exact iteT (iteT (no fun w => q1 w.1.2))
        rw [decide_eq_false (show ¬ ((cs.length : Int) ≤ z.1) by omega)]
        refine iteF ?_
        refine ⟨_, rfl, _, rfl, D, _, rfl, .inl (SqL.of eDi), _, _, rfl, rfl, _, rfl, ?_⟩
        rw [List.length_map]
        by_cases q2 : z.2.2.1 < cs.length
        rotate_left
        · rw [decide_eq_true (show ((cs.length : Int) ≤ z.2.2.1) by omega)]
          exact iteT (iteT (no fun w => q2 w.2.2.1.2))
        rw [decide_eq_false (show ¬ ((cs.length : Int) ≤ z.2.2.1) by omega)]
        refine iteF ?_
        refine ⟨_, rfl, _, rfl, rfl, _, rfl, ?_⟩
        by_cases q3 : z.1 = z.2.2.1
        · refine ite2 (fun _ => no fun w => w.2.2.2.2 q3) (fun w => absurd (decide_eq_true (by rw [q3])) w)
        refine ite2 (fun w => absurd (by injection (of_decide_eq_true w)) q3) (fun _ => ?_)
        refine ⟨_, rfl, _, rfl, _, rfl, _, _, _, _, rfl, rfl, SqL.of eDi, atI_gI z1 q1, _, _, rfl, rfl, _, rfl, ?_⟩
        by_cases q4 : z.2.1 < gI cs z.1
        rotate_left
        · rw [decide_eq_true (show (gI cs z.1 ≤ z.2.1) by omega)]
          exact iteT (iteT (no fun w => q4 w.2.1.2))
        rw [decide_eq_false (show ¬ (gI cs z.1 ≤ z.2.1) by omega)]
        refine iteF ?_
        refine ⟨_, rfl, _, rfl, _, rfl, _, _, _, _, rfl, rfl, SqL.of eDi, atI_gI z3 q2, _, _, rfl, rfl, _, rfl, ?_⟩
        by_cases q5 : z.2.2.2 < gI cs z.2.2.1
        rotate_left
        · rw [decide_eq_true (show (gI cs z.2.2.1 ≤ z.2.2.2) by omega)]
          exact iteT (no fun w => q5 w.2.2.2.1.2)
        rw [decide_eq_false (show ¬ (gI cs z.2.2.1 ≤ z.2.2.2) by omega)]
        refine iteF ?_
        refine ⟨rfl, ⟨_, _, _, _, _, _, rfl⟩, fun y hy => ?_⟩
        rw [List.take_succ, ez, Option.toList_some] at hy
        rcases List.mem_append.mp hy with hy | hy
        · exact al y hy
        · rw [List.mem_singleton.mp hy]; exact ⟨⟨z1, q1⟩, ⟨z2, q4⟩, ⟨z3, q2⟩, ⟨z4, q5⟩, q3⟩
      · rintro σ Hj ⟨rfl, ⟨x5, x6, x7, x8, x9, x10, rfl⟩, al⟩
        have vl : vs.length = ns.length := by rw [dv.length, List.length_map]
        rw [vl, List.take_length] at al
        refine ⟨_, rfl, _, rfl, (by show 2 ≤ sizeLine; decide), fun t ht => ?_⟩
        have st := same_new (o := HO.tup [V.ref D, V.ref T]) ht
        exact k1 al t D T _ ⟨upd_same, st _ _ eDi, N.same st⟩ (SH.trans st)

/-! ### copies, data of a record -/
theorem eqv_int (x y : Int) : PyData.eqv (.int x) (.int y) = decide (x = y) := by
  simp only [PyData.eqv]
  rw [Bool.eq_iff_iff]
  simp
theorem dat_ints {H : Hp} {a : Addr} {ns : List Int} (h : H a = some (.lst (ns.map V.int))) : Dat H (.ref a) (.list (ns.map PyData.int)) := dat_list h (Dats.ints ns)
theorem shaped_ints (ns : List Int) : SeqAt.shaped (.list (ns.map PyData.int)) = true := shaped_list PyData.int 0 (by decide) (fun _ _ => rfl) (fun _ _ => by show 0 ≤ 0; decide)
def rD (cs : List Int) (ns : List Nt) : PyData := .tuple [.list (cs.map PyData.int), .list (ns.map nD)]
theorem dat_rec {H : Hp} {t c a : Addr} {cs : List Int} {ns : List Nt} (h : RecAt H t c a cs ns) : Dat H (.ref t) (rD cs ns) := by
  obtain ⟨ht, hc, vs, ha, dv⟩ := h
  simp only [rD, Dat]
  refine ⟨t, _, rfl, ht, ?_⟩
  simp only [Dats, and_true]
  exact ⟨dat_ints hc, dat_list ha dv⟩
theorem shaped_rec (cs : List Int) (ns : List Nt) : SeqAt.shaped (rD cs ns) = true := by
  have e1 := shaped_ints cs
  have e2 := shaped_nts ns
  simp only [SeqAt.shaped, PyData.depth, PyData.depthAll, PyData.canLay0, PyData.canLayAll0, rD, Bool.and_eq_true, decide_eq_true_eq, Bool.and_true] at e1 e2 ⊢
  have d1 : PyData.depthAll (cs.map PyData.int) ≤ 0 := depthAll_map _ 0 cs (fun _ _ => by show 0 ≤ 0; decide)
  have d2 : PyData.depthAll (ns.map nD) ≤ 1 := depthAll_map _ 1 ns (fun _ _ => by show (max 0 (max 0 (max 0 (max 0 0)))) + 1 ≤ 1; decide)
  refine ⟨?_, ?_⟩ <;> first | (clear e2 e1; omega) | exact ⟨e1.1, e2.1⟩ | exact ⟨e1.2, e2.2⟩ | skip
theorem eqv_rec (cs ds : List Int) (ns ms : List Nt) : PyData.eqv (rD cs ns) (rD ds ms) = (decide (cs = ds) && decide (ns = ms)) := by
  simp only [rD, PyData.eqv, PyData.eqvAll, Bool.and_true]
  have e1 := eqv_list PyData.int eqv_int cs ds
  have e2 := eqv_list nD eqv_nD ns ms
  simp only [PyData.eqv] at e1 e2
  rw [e1, e2]

/-! ### the refusals' classes -/
structure FlC (K : PySem.W.Frag) (Cs : List Addr) (CR C : Addr) (i : Nat) : Prop where
  xc : PySem.W.XCls K C
  k : ∀ (j : Nat) (D : Addr), Cs[j]? = some D → PySem.W.kitOne K (.ref C) (.ref D) = some (decide (j = i))
  re : PySem.W.kitOne K (.ref C) (.ref CR) = some false
  ve : PySem.W.kitOne K (.ref C) (.type "ValueError") = some true
  i16 : i < 16
def flV (i : Nat) : List Bool := (List.range 18).map fun k => decide (k = i)
def spFlags (Cs : List Addr) (CR : Addr) (K : PySem.W.Frag) : Sp := fun vs H Q _ => ∃ (e C : Addr) (i : Nat), vs = [.ref e] ∧ H e = some (XO C none e) ∧ FlC K Cs CR C i ∧ ∀ (l : Addr) (H' : Hp), H' l = some (.lst ((flV i).map V.bl)) → Same H H' → Q (.ref l) H'
theorem ok_flags {C_NoRow C_NoCell C_Full C_NoTarget C_NoHand C_Over C_NoPlace C_NoOrder C_NoNote C_NoCut C_TooMany C_Held C_NoText C_NoForm C_NoneYet C_NoNumber C_RowError : Addr} (X_NoText : Xr K mg C_NoText "NoText") (X_NoNote : Xr K mg C_NoNote "NoNote") (O_NoRow : Xo K mg C_NoText C_NoRow "NoRow" false) (O_NoCell : Xo K mg C_NoText C_NoCell "NoCell" false) (O_Full : Xo K mg C_NoText C_Full "Full" false) (O_NoTarget : Xo K mg C_NoText C_NoTarget "NoTarget" false) (O_NoHand : Xo K mg C_NoText C_NoHand "NoHand" false) (O_Over : Xo K mg C_NoText C_Over "Over" false) (O_NoPlace : Xo K mg C_NoText C_NoPlace "NoPlace" false) (O_NoOrder : Xo K mg C_NoText C_NoOrder "NoOrder" false) (O_NoCut : Xo K mg C_NoText C_NoCut "NoCut" false) (O_TooMany : Xo K mg C_NoText C_TooMany "TooMany" false) (O_Held : Xo K mg C_NoText C_Held "Held" false) (O_NoForm : Xo K mg C_NoText C_NoForm "NoForm" false) (O_NoneYet : Xo K mg C_NoText C_NoneYet "NoneYet" false) (O_NoNumber : Xo K mg C_NoText C_NoNumber "NoNumber" false) (O_RowError : Xo K mg C_NoText C_RowError "RowError" false) {f : Addr} {fd : FuncData} (F : Fun K "_law_flags" "_law_flags" s_Lflags f fd) (Bt : Blt mg) : FnOk P w K mg base CX0 1 f fd ["e"] (spFlags [C_NoRow, C_NoCell, C_Full, C_NoTarget, C_NoHand, C_Over, C_NoPlace, C_NoOrder, C_NoNote, C_NoCut, C_TooMany, C_Held, C_NoText, C_NoForm, C_NoneYet, C_NoNumber] C_RowError K) := by
  refine F.ok sc_Lflags (fun vs H Q E h => ?_) (fun cdv A outer s H vs Q E hr h => ?_)
  · obtain ⟨e, C, i, rfl, _⟩ := h
    rfl
  · obtain ⟨e, C, i, rfl, he, a, k⟩ := h
    refine ⟨_, (pss_cons (ps_set (i := 1) sc_Lflags.nd rfl (Or.inl rfl) (pe_lst (pa_cons (pe_callB (call_isX (K := K) (c := .ref C_NoRow) (cv := .ref C_NoRow) rfl (fun _ h => h)) (by rfl) Bt.b_isinstance bt_isinstance (pa_cons (pv 0) (pa_cons (pe_glob (v := .ref C_NoRow) (by rfl) O_NoRow.bd rfl) pa_nil))) (pa_cons (pe_callB (call_isX (K := K) (c := .ref C_NoCell) (cv := .ref C_NoCell) rfl (fun _ h => h)) (by rfl) Bt.b_isinstance bt_isinstance (pa_cons (pv 0) (pa_cons (pe_glob (v := .ref C_NoCell) (by rfl) O_NoCell.bd rfl) pa_nil))) (pa_cons (pe_callB (call_isX (K := K) (c := .ref C_Full) (cv := .ref C_Full) rfl (fun _ h => h)) (by rfl) Bt.b_isinstance bt_isinstance (pa_cons (pv 0) (pa_cons (pe_glob (v := .ref C_Full) (by rfl) O_Full.bd rfl) pa_nil))) (pa_cons (pe_callB (call_isX (K := K) (c := .ref C_NoTarget) (cv := .ref C_NoTarget) rfl (fun _ h => h)) (by rfl) Bt.b_isinstance bt_isinstance (pa_cons (pv 0) (pa_cons (pe_glob (v := .ref C_NoTarget) (by rfl) O_NoTarget.bd rfl) pa_nil))) pa_nil))))))
      (pss_cons (ps_set (i := 1) sc_Lflags.nd rfl (Or.inl rfl) (pe_op op_cat (pv 1) (pe_lst (pa_cons (pe_callB (call_isX (K := K) (c := .ref C_NoHand) (cv := .ref C_NoHand) rfl (fun _ h => h)) (by rfl) Bt.b_isinstance bt_isinstance (pa_cons (pv 0) (pa_cons (pe_glob (v := .ref C_NoHand) (by rfl) O_NoHand.bd rfl) pa_nil))) (pa_cons (pe_callB (call_isX (K := K) (c := .ref C_Over) (cv := .ref C_Over) rfl (fun _ h => h)) (by rfl) Bt.b_isinstance bt_isinstance (pa_cons (pv 0) (pa_cons (pe_glob (v := .ref C_Over) (by rfl) O_Over.bd rfl) pa_nil))) (pa_cons (pe_callB (call_isX (K := K) (c := .ref C_NoPlace) (cv := .ref C_NoPlace) rfl (fun _ h => h)) (by rfl) Bt.b_isinstance bt_isinstance (pa_cons (pv 0) (pa_cons (pe_glob (v := .ref C_NoPlace) (by rfl) O_NoPlace.bd rfl) pa_nil))) (pa_cons (pe_callB (call_isX (K := K) (c := .ref C_NoOrder) (cv := .ref C_NoOrder) rfl (fun _ h => h)) (by rfl) Bt.b_isinstance bt_isinstance (pa_cons (pv 0) (pa_cons (pe_glob (v := .ref C_NoOrder) (by rfl) O_NoOrder.bd rfl) pa_nil))) pa_nil)))))))
      (pss_cons (ps_set (i := 1) sc_Lflags.nd rfl (Or.inl rfl) (pe_op op_cat (pv 1) (pe_lst (pa_cons (pe_callB (call_isX (K := K) (c := .ref C_NoNote) (cv := .ref C_NoNote) rfl (fun _ h => h)) (by rfl) Bt.b_isinstance bt_isinstance (pa_cons (pv 0) (pa_cons (pe_glob (v := .ref C_NoNote) (by rfl) X_NoNote.bd rfl) pa_nil))) (pa_cons (pe_callB (call_isX (K := K) (c := .ref C_NoCut) (cv := .ref C_NoCut) rfl (fun _ h => h)) (by rfl) Bt.b_isinstance bt_isinstance (pa_cons (pv 0) (pa_cons (pe_glob (v := .ref C_NoCut) (by rfl) O_NoCut.bd rfl) pa_nil))) (pa_cons (pe_callB (call_isX (K := K) (c := .ref C_TooMany) (cv := .ref C_TooMany) rfl (fun _ h => h)) (by rfl) Bt.b_isinstance bt_isinstance (pa_cons (pv 0) (pa_cons (pe_glob (v := .ref C_TooMany) (by rfl) O_TooMany.bd rfl) pa_nil))) (pa_cons (pe_callB (call_isX (K := K) (c := .ref C_Held) (cv := .ref C_Held) rfl (fun _ h => h)) (by rfl) Bt.b_isinstance bt_isinstance (pa_cons (pv 0) (pa_cons (pe_glob (v := .ref C_Held) (by rfl) O_Held.bd rfl) pa_nil))) pa_nil)))))))
      (pss_cons (ps_set (i := 1) sc_Lflags.nd rfl (Or.inl rfl) (pe_op op_cat (pv 1) (pe_lst (pa_cons (pe_callB (call_isX (K := K) (c := .ref C_NoText) (cv := .ref C_NoText) rfl (fun _ h => h)) (by rfl) Bt.b_isinstance bt_isinstance (pa_cons (pv 0) (pa_cons (pe_glob (v := .ref C_NoText) (by rfl) X_NoText.bd rfl) pa_nil))) (pa_cons (pe_callB (call_isX (K := K) (c := .ref C_NoForm) (cv := .ref C_NoForm) rfl (fun _ h => h)) (by rfl) Bt.b_isinstance bt_isinstance (pa_cons (pv 0) (pa_cons (pe_glob (v := .ref C_NoForm) (by rfl) O_NoForm.bd rfl) pa_nil))) (pa_cons (pe_callB (call_isX (K := K) (c := .ref C_NoneYet) (cv := .ref C_NoneYet) rfl (fun _ h => h)) (by rfl) Bt.b_isinstance bt_isinstance (pa_cons (pv 0) (pa_cons (pe_glob (v := .ref C_NoneYet) (by rfl) O_NoneYet.bd rfl) pa_nil))) (pa_cons (pe_callB (call_isX (K := K) (c := .ref C_NoNumber) (cv := .ref C_NoNumber) rfl (fun _ h => h)) (by rfl) Bt.b_isinstance bt_isinstance (pa_cons (pv 0) (pa_cons (pe_glob (v := .ref C_NoNumber) (by rfl) O_NoNumber.bd rfl) pa_nil))) pa_nil)))))))
      (pss_one (ps_ret (pe_op op_cat (pv 1) (pe_lst (pa_cons (pe_callB (call_isX (K := K) (c := .ref C_RowError) (cv := .ref C_RowError) rfl (fun _ h => h)) (by rfl) Bt.b_isinstance bt_isinstance (pa_cons (pv 0) (pa_cons (pe_glob (v := .ref C_RowError) (by rfl) O_RowError.bd rfl) pa_nil))) (pa_cons (pe_not (pe_callB (call_isX (K := K) (c := .type "ValueError") (cv := .ty "ValueError") rfl (fun _ h => h)) (by rfl) Bt.b_isinstance bt_isinstance (pa_cons (pv 0) (pa_cons (pe_bltn (v := .ty "ValueError") (by rfl) Bt.b_ValueError bt_ValueError rfl) pa_nil)))) pa_nil)))))))))), ?_⟩
    have k : ∀ (l : Addr) (H' : Hp), H' l = some (.lst [V.bl (decide (0 = i)), V.bl (decide (1 = i)), V.bl (decide (2 = i)), V.bl (decide (3 = i)), V.bl (decide (4 = i)), V.bl (decide (5 = i)), V.bl (decide (6 = i)), V.bl (decide (7 = i)), V.bl (decide (8 = i)), V.bl (decide (9 = i)), V.bl (decide (10 = i)), V.bl (decide (11 = i)), V.bl (decide (12 = i)), V.bl (decide (13 = i)), V.bl (decide (14 = i)), V.bl (decide (15 = i)), V.bl (decide (16 = i)), V.bl (decide (17 = i))]) → Same H H' → Q (.ref l) H' := k
    rw [decide_eq_false (show ¬ 16 = i by have := a.i16; omega), decide_eq_false (show ¬ 17 = i by have := a.i16; omega)] at k
    refine ⟨_, rfl, e, C, _, rfl, he, a.xc, a.k 0 _ rfl, _, rfl, e, C, _, rfl, he, a.xc, a.k 1 _ rfl, _, rfl, e, C, _, rfl, he, a.xc, a.k 2 _ rfl, _, rfl, e, C, _, rfl, he, a.xc, a.k 3 _ rfl, (by show 4 ≤ sizeLine; decide), fun q1 hq1 => ?_⟩
    have s1 := same_new (o := HO.lst [V.bl (decide (0 = i)), V.bl (decide (1 = i)), V.bl (decide (2 = i)), V.bl (decide (3 = i))]) hq1
    have e1 : (upd H q1 (.lst [V.bl (decide (0 = i)), V.bl (decide (1 = i)), V.bl (decide (2 = i)), V.bl (decide (3 = i))])) q1 = some (.lst [V.bl (decide (0 = i)), V.bl (decide (1 = i)), V.bl (decide (2 = i)), V.bl (decide (3 = i))]) := upd_same
    generalize upd H q1 (.lst [V.bl (decide (0 = i)), V.bl (decide (1 = i)), V.bl (decide (2 = i)), V.bl (decide (3 = i))]) = H1 at s1 e1 ⊢
    refine ⟨_, rfl, _, rfl, e, C, _, rfl, s1 _ _ he, a.xc, a.k 4 _ rfl, _, rfl, e, C, _, rfl, s1 _ _ he, a.xc, a.k 5 _ rfl, _, rfl, e, C, _, rfl, s1 _ _ he, a.xc, a.k 6 _ rfl, _, rfl, e, C, _, rfl, s1 _ _ he, a.xc, a.k 7 _ rfl, (by show 4 ≤ sizeLine; decide), fun p2 hp2 => ?_⟩
    have t2 := same_new (o := HO.lst [V.bl (decide (4 = i)), V.bl (decide (5 = i)), V.bl (decide (6 = i)), V.bl (decide (7 = i))]) hp2
    refine ⟨q1, p2, _, _, rfl, rfl, t2 _ _ e1, upd_same, (by show 4 + 4 ≤ sizeLine; decide), fun q2 hq2 => ?_⟩
    have s2 := (s1.trans t2).trans (same_new (o := HO.lst ([V.bl (decide (0 = i)), V.bl (decide (1 = i)), V.bl (decide (2 = i)), V.bl (decide (3 = i))] ++ [V.bl (decide (4 = i)), V.bl (decide (5 = i)), V.bl (decide (6 = i)), V.bl (decide (7 = i))])) hq2)
    have e2 : (upd (upd H1 p2 (.lst [V.bl (decide (4 = i)), V.bl (decide (5 = i)), V.bl (decide (6 = i)), V.bl (decide (7 = i))])) q2 (.lst ([V.bl (decide (0 = i)), V.bl (decide (1 = i)), V.bl (decide (2 = i)), V.bl (decide (3 = i))] ++ [V.bl (decide (4 = i)), V.bl (decide (5 = i)), V.bl (decide (6 = i)), V.bl (decide (7 = i))]))) q2 = some (.lst [V.bl (decide (0 = i)), V.bl (decide (1 = i)), V.bl (decide (2 = i)), V.bl (decide (3 = i)), V.bl (decide (4 = i)), V.bl (decide (5 = i)), V.bl (decide (6 = i)), V.bl (decide (7 = i))]) := upd_same
    generalize (upd (upd H1 p2 (.lst [V.bl (decide (4 = i)), V.bl (decide (5 = i)), V.bl (decide (6 = i)), V.bl (decide (7 = i))])) q2 (.lst ([V.bl (decide (0 = i)), V.bl (decide (1 = i)), V.bl (decide (2 = i)), V.bl (decide (3 = i))] ++ [V.bl (decide (4 = i)), V.bl (decide (5 = i)), V.bl (decide (6 = i)), V.bl (decide (7 = i))]))) = H2 at s2 e2 ⊢
    clear e1 t2 s1 hp2 hq2
    refine ⟨_, rfl, _, rfl, e, C, _, rfl, s2 _ _ he, a.xc, a.k 8 _ rfl, _, rfl, e, C, _, rfl, s2 _ _ he, a.xc, a.k 9 _ rfl, _, rfl, e, C, _, rfl, s2 _ _ he, a.xc, a.k 10 _ rfl, _, rfl, e, C, _, rfl, s2 _ _ he, a.xc, a.k 11 _ rfl, (by show 4 ≤ sizeLine; decide), fun p3 hp3 => ?_⟩
    have t3 := same_new (o := HO.lst [V.bl (decide (8 = i)), V.bl (decide (9 = i)), V.bl (decide (10 = i)), V.bl (decide (11 = i))]) hp3
    refine ⟨q2, p3, _, _, rfl, rfl, t3 _ _ e2, upd_same, (by show 8 + 4 ≤ sizeLine; decide), fun q3 hq3 => ?_⟩
    have s3 := (s2.trans t3).trans (same_new (o := HO.lst ([V.bl (decide (0 = i)), V.bl (decide (1 = i)), V.bl (decide (2 = i)), V.bl (decide (3 = i)), V.bl (decide (4 = i)), V.bl (decide (5 = i)), V.bl (decide (6 = i)), V.bl (decide (7 = i))] ++ [V.bl (decide (8 = i)), V.bl (decide (9 = i)), V.bl (decide (10 = i)), V.bl (decide (11 = i))])) hq3)
    have e3 : (upd (upd H2 p3 (.lst [V.bl (decide (8 = i)), V.bl (decide (9 = i)), V.bl (decide (10 = i)), V.bl (decide (11 = i))])) q3 (.lst ([V.bl (decide (0 = i)), V.bl (decide (1 = i)), V.bl (decide (2 = i)), V.bl (decide (3 = i)), V.bl (decide (4 = i)), V.bl (decide (5 = i)), V.bl (decide (6 = i)), V.bl (decide (7 = i))] ++ [V.bl (decide (8 = i)), V.bl (decide (9 = i)), V.bl (decide (10 = i)), V.bl (decide (11 = i))]))) q3 = some (.lst [V.bl (decide (0 = i)), V.bl (decide (1 = i)), V.bl (decide (2 = i)), V.bl (decide (3 = i)), V.bl (decide (4 = i)), V.bl (decide (5 = i)), V.bl (decide (6 = i)), V.bl (decide (7 = i)), V.bl (decide (8 = i)), V.bl (decide (9 = i)), V.bl (decide (10 = i)), V.bl (decide (11 = i))]) := upd_same
    generalize (upd (upd H2 p3 (.lst [V.bl (decide (8 = i)), V.bl (decide (9 = i)), V.bl (decide (10 = i)), V.bl (decide (11 = i))])) q3 (.lst ([V.bl (decide (0 = i)), V.bl (decide (1 = i)), V.bl (decide (2 = i)), V.bl (decide (3 = i)), V.bl (decide (4 = i)), V.bl (decide (5 = i)), V.bl (decide (6 = i)), V.bl (decide (7 = i))] ++ [V.bl (decide (8 = i)), V.bl (decide (9 = i)), V.bl (decide (10 = i)), V.bl (decide (11 = i))]))) = H3 at s3 e3 ⊢
    clear e2 t3 s2 hp3 hq3
    refine ⟨_, rfl, _, rfl, e, C, _, rfl, s3 _ _ he, a.xc, a.k 12 _ rfl, _, rfl, e, C, _, rfl, s3 _ _ he, a.xc, a.k 13 _ rfl, _, rfl, e, C, _, rfl, s3 _ _ he, a.xc, a.k 14 _ rfl, _, rfl, e, C, _, rfl, s3 _ _ he, a.xc, a.k 15 _ rfl, (by show 4 ≤ sizeLine; decide), fun p4 hp4 => ?_⟩
    have t4 := same_new (o := HO.lst [V.bl (decide (12 = i)), V.bl (decide (13 = i)), V.bl (decide (14 = i)), V.bl (decide (15 = i))]) hp4
    refine ⟨q3, p4, _, _, rfl, rfl, t4 _ _ e3, upd_same, (by show 12 + 4 ≤ sizeLine; decide), fun q4 hq4 => ?_⟩
    have s4 := (s3.trans t4).trans (same_new (o := HO.lst ([V.bl (decide (0 = i)), V.bl (decide (1 = i)), V.bl (decide (2 = i)), V.bl (decide (3 = i)), V.bl (decide (4 = i)), V.bl (decide (5 = i)), V.bl (decide (6 = i)), V.bl (decide (7 = i)), V.bl (decide (8 = i)), V.bl (decide (9 = i)), V.bl (decide (10 = i)), V.bl (decide (11 = i))] ++ [V.bl (decide (12 = i)), V.bl (decide (13 = i)), V.bl (decide (14 = i)), V.bl (decide (15 = i))])) hq4)
    have e4 : (upd (upd H3 p4 (.lst [V.bl (decide (12 = i)), V.bl (decide (13 = i)), V.bl (decide (14 = i)), V.bl (decide (15 = i))])) q4 (.lst ([V.bl (decide (0 = i)), V.bl (decide (1 = i)), V.bl (decide (2 = i)), V.bl (decide (3 = i)), V.bl (decide (4 = i)), V.bl (decide (5 = i)), V.bl (decide (6 = i)), V.bl (decide (7 = i)), V.bl (decide (8 = i)), V.bl (decide (9 = i)), V.bl (decide (10 = i)), V.bl (decide (11 = i))] ++ [V.bl (decide (12 = i)), V.bl (decide (13 = i)), V.bl (decide (14 = i)), V.bl (decide (15 = i))]))) q4 = some (.lst [V.bl (decide (0 = i)), V.bl (decide (1 = i)), V.bl (decide (2 = i)), V.bl (decide (3 = i)), V.bl (decide (4 = i)), V.bl (decide (5 = i)), V.bl (decide (6 = i)), V.bl (decide (7 = i)), V.bl (decide (8 = i)), V.bl (decide (9 = i)), V.bl (decide (10 = i)), V.bl (decide (11 = i)), V.bl (decide (12 = i)), V.bl (decide (13 = i)), V.bl (decide (14 = i)), V.bl (decide (15 = i))]) := upd_same
    generalize (upd (upd H3 p4 (.lst [V.bl (decide (12 = i)), V.bl (decide (13 = i)), V.bl (decide (14 = i)), V.bl (decide (15 = i))])) q4 (.lst ([V.bl (decide (0 = i)), V.bl (decide (1 = i)), V.bl (decide (2 = i)), V.bl (decide (3 = i)), V.bl (decide (4 = i)), V.bl (decide (5 = i)), V.bl (decide (6 = i)), V.bl (decide (7 = i)), V.bl (decide (8 = i)), V.bl (decide (9 = i)), V.bl (decide (10 = i)), V.bl (decide (11 = i))] ++ [V.bl (decide (12 = i)), V.bl (decide (13 = i)), V.bl (decide (14 = i)), V.bl (decide (15 = i))]))) = H4 at s4 e4 ⊢
    clear e3 t4 s3 hp4 hq4
    refine ⟨_, rfl, _, rfl, e, C, _, rfl, s4 _ _ he, a.xc, a.re, _, rfl, e, C, _, rfl, s4 _ _ he, a.xc, a.ve, _, rfl, (by show 2 ≤ sizeLine; decide), fun p5 hp5 => ?_⟩
    have t5 := same_new (o := HO.lst [V.bl false, V.bl false]) hp5
    refine ⟨q4, p5, _, _, rfl, rfl, t5 _ _ e4, upd_same, (by show 16 + 2 ≤ sizeLine; decide), fun q5 hq5 => ?_⟩
    exact k q5 _ upd_same ((s4.trans t5).trans (same_new hq5))
theorem flc_text {C_NoRow C_NoCell C_Full C_NoTarget C_NoHand C_Over C_NoPlace C_NoOrder C_NoNote C_NoCut C_TooMany C_Held C_NoText C_NoForm C_NoneYet C_NoNumber C_RowError : Addr} (X_NoText : Xr K mg C_NoText "NoText") (X_NoNote : Xr K mg C_NoNote "NoNote") (O_NoRow : Xo K mg C_NoText C_NoRow "NoRow" false) (O_NoCell : Xo K mg C_NoText C_NoCell "NoCell" false) (O_Full : Xo K mg C_NoText C_Full "Full" false) (O_NoTarget : Xo K mg C_NoText C_NoTarget "NoTarget" false) (O_NoHand : Xo K mg C_NoText C_NoHand "NoHand" false) (O_Over : Xo K mg C_NoText C_Over "Over" false) (O_NoPlace : Xo K mg C_NoText C_NoPlace "NoPlace" false) (O_NoOrder : Xo K mg C_NoText C_NoOrder "NoOrder" false) (O_NoCut : Xo K mg C_NoText C_NoCut "NoCut" false) (O_TooMany : Xo K mg C_NoText C_TooMany "TooMany" false) (O_Held : Xo K mg C_NoText C_Held "Held" false) (O_NoForm : Xo K mg C_NoText C_NoForm "NoForm" false) (O_NoneYet : Xo K mg C_NoText C_NoneYet "NoneYet" false) (O_NoNumber : Xo K mg C_NoText C_NoNumber "NoNumber" false) (O_RowError : Xo K mg C_NoText C_RowError "RowError" false) (Q_NoText_NoNote : XPair K C_NoText C_NoNote false) : FlC K [C_NoRow, C_NoCell, C_Full, C_NoTarget, C_NoHand, C_Over, C_NoPlace, C_NoOrder, C_NoNote, C_NoCut, C_TooMany, C_Held, C_NoText, C_NoForm, C_NoneYet, C_NoNumber] C_RowError C_NoText 12 := by
  refine ⟨X_NoText.xc, fun j D h => ?_, O_RowError.kit, kit_value X_NoText.ve, by decide⟩
  match j, h with
  | 0, h => cases h; exact O_NoRow.kit
  | 1, h => cases h; exact O_NoCell.kit
  | 2, h => cases h; exact O_Full.kit
  | 3, h => cases h; exact O_NoTarget.kit
  | 4, h => cases h; exact O_NoHand.kit
  | 5, h => cases h; exact O_Over.kit
  | 6, h => cases h; exact O_NoPlace.kit
  | 7, h => cases h; exact O_NoOrder.kit
  | 8, h => cases h; exact kit_own X_NoNote.hd Q_NoText_NoNote
  | 9, h => cases h; exact O_NoCut.kit
  | 10, h => cases h; exact O_TooMany.kit
  | 11, h => cases h; exact O_Held.kit
  | 12, h => cases h; exact kit_same
  | 13, h => cases h; exact O_NoForm.kit
  | 14, h => cases h; exact O_NoneYet.kit
  | 15, h => cases h; exact O_NoNumber.kit
  | j + 16, h => cases h
theorem flc_note {C_NoRow C_NoCell C_Full C_NoTarget C_NoHand C_Over C_NoPlace C_NoOrder C_NoNote C_NoCut C_TooMany C_Held C_NoText C_NoForm C_NoneYet C_NoNumber C_RowError : Addr} (X_NoText : Xr K mg C_NoText "NoText") (X_NoNote : Xr K mg C_NoNote "NoNote") (O_NoRow : Xo K mg C_NoText C_NoRow "NoRow" false) (O_NoCell : Xo K mg C_NoText C_NoCell "NoCell" false) (O_Full : Xo K mg C_NoText C_Full "Full" false) (O_NoTarget : Xo K mg C_NoText C_NoTarget "NoTarget" false) (O_NoHand : Xo K mg C_NoText C_NoHand "NoHand" false) (O_Over : Xo K mg C_NoText C_Over "Over" false) (O_NoPlace : Xo K mg C_NoText C_NoPlace "NoPlace" false) (O_NoOrder : Xo K mg C_NoText C_NoOrder "NoOrder" false) (O_NoCut : Xo K mg C_NoText C_NoCut "NoCut" false) (O_TooMany : Xo K mg C_NoText C_TooMany "TooMany" false) (O_Held : Xo K mg C_NoText C_Held "Held" false) (O_NoForm : Xo K mg C_NoText C_NoForm "NoForm" false) (O_NoneYet : Xo K mg C_NoText C_NoneYet "NoneYet" false) (O_NoNumber : Xo K mg C_NoText C_NoNumber "NoNumber" false) (O_RowError : Xo K mg C_NoText C_RowError "RowError" false) (Q_NoNote_NoRow : XPair K C_NoNote C_NoRow false) (Q_NoNote_NoCell : XPair K C_NoNote C_NoCell false) (Q_NoNote_Full : XPair K C_NoNote C_Full false) (Q_NoNote_NoTarget : XPair K C_NoNote C_NoTarget false) (Q_NoNote_NoHand : XPair K C_NoNote C_NoHand false) (Q_NoNote_Over : XPair K C_NoNote C_Over false) (Q_NoNote_NoPlace : XPair K C_NoNote C_NoPlace false) (Q_NoNote_NoOrder : XPair K C_NoNote C_NoOrder false) (Q_NoNote_NoCut : XPair K C_NoNote C_NoCut false) (Q_NoNote_TooMany : XPair K C_NoNote C_TooMany false) (Q_NoNote_Held : XPair K C_NoNote C_Held false) (Q_NoNote_NoForm : XPair K C_NoNote C_NoForm false) (Q_NoNote_NoneYet : XPair K C_NoNote C_NoneYet false) (Q_NoNote_NoNumber : XPair K C_NoNote C_NoNumber false) (Q_NoNote_NoText : XPair K C_NoNote C_NoText false) (Q_NoNote_RowError : XPair K C_NoNote C_RowError false) : FlC K [C_NoRow, C_NoCell, C_Full, C_NoTarget, C_NoHand, C_Over, C_NoPlace, C_NoOrder, C_NoNote, C_NoCut, C_TooMany, C_Held, C_NoText, C_NoForm, C_NoneYet, C_NoNumber] C_RowError C_NoNote 8 := by
  refine ⟨X_NoNote.xc, fun j D h => ?_, kit_own O_RowError.hd Q_NoNote_RowError, kit_value X_NoNote.ve, by decide⟩
  match j, h with
  | 0, h => cases h; exact kit_own O_NoRow.hd Q_NoNote_NoRow
  | 1, h => cases h; exact kit_own O_NoCell.hd Q_NoNote_NoCell
  | 2, h => cases h; exact kit_own O_Full.hd Q_NoNote_Full
  | 3, h => cases h; exact kit_own O_NoTarget.hd Q_NoNote_NoTarget
  | 4, h => cases h; exact kit_own O_NoHand.hd Q_NoNote_NoHand
  | 5, h => cases h; exact kit_own O_Over.hd Q_NoNote_Over
  | 6, h => cases h; exact kit_own O_NoPlace.hd Q_NoNote_NoPlace
  | 7, h => cases h; exact kit_own O_NoOrder.hd Q_NoNote_NoOrder
  | 8, h => cases h; exact kit_same
  | 9, h => cases h; exact kit_own O_NoCut.hd Q_NoNote_NoCut
  | 10, h => cases h; exact kit_own O_TooMany.hd Q_NoNote_TooMany
  | 11, h => cases h; exact kit_own O_Held.hd Q_NoNote_Held
  | 12, h => cases h; exact kit_own X_NoText.hd Q_NoNote_NoText
  | 13, h => cases h; exact kit_own O_NoForm.hd Q_NoNote_NoForm
  | 14, h => cases h; exact kit_own O_NoneYet.hd Q_NoNote_NoneYet
  | 15, h => cases h; exact kit_own O_NoNumber.hd Q_NoNote_NoNumber
  | j + 16, h => cases h

/-! ### a text read, as the law asks it -/
theorem set_c {i : Nat} {v : V} {u : TS} {D : Ends} {σ : St} {H : Hp} (h : u D (σ.set i (some v)) H) : tSeq (tAsg (tC v) (gName i)) u D σ H := h
def spRight64 (K : PySem.W.Frag) : Sp := fun vs H Q _ => ∃ x : Str, vs = [.str x] ∧ x.length ≤ 80000 ∧ ∀ H', Same H H' → Q (.bl true) H'
theorem eqv_flags (i : Nat) : PyData.eqv (.list ((flV i).map PyData.bool)) (.list ((flV i).map PyData.bool)) = true := by
  rw [eqv_list PyData.bool (fun x y => by cases x <;> cases y <;> rfl)]
  exact decide_eq_true rfl
theorem shaped_flags (i : Nat) : SeqAt.shaped (.list ((flV i).map PyData.bool)) = true := shaped_list _ 0 (by decide) (fun c _ => by rfl) (fun c _ => by show 0 ≤ 0; decide)
theorem dats_bools {H : Hp} : ∀ l : List Bool, Dats H (l.map V.bl) (l.map PyData.bool)
  | [] => by simp only [List.map_nil, Dats]
  | b :: l => by simp only [List.map_cons, Dats, Dat, true_and]; exact dats_bools l
theorem ok_right64 {C_NoRow C_NoCell C_Full C_NoTarget C_NoHand C_Over C_NoPlace C_NoOrder C_NoNote C_NoCut C_TooMany C_Held C_NoText C_NoForm C_NoneYet C_NoNumber C_RowError C_NoteError : Addr} (O_NoteError : Xo K mg C_NoText C_NoteError "NoteError" true) (Q_NoNote_NoteError : XPair K C_NoNote C_NoteError true) (FT : FlC K [C_NoRow, C_NoCell, C_Full, C_NoTarget, C_NoHand, C_Over, C_NoPlace, C_NoOrder, C_NoNote, C_NoCut, C_TooMany, C_Held, C_NoText, C_NoForm, C_NoneYet, C_NoNumber] C_RowError C_NoText 12) (FN : FlC K [C_NoRow, C_NoCell, C_Full, C_NoTarget, C_NoHand, C_Over, C_NoPlace, C_NoOrder, C_NoNote, C_NoCut, C_TooMany, C_Held, C_NoText, C_NoForm, C_NoneYet, C_NoNumber] C_RowError C_NoNote 8) {f : Addr} {fd : FuncData} (F : Fun K "_law_right" "_law_right" s_Lright f fd) (F_Ldue : FnAt P w K mg base 3 "_law_due" ["text"] (spDue64 K)) (F_read_record : FnAtX P w K mg base 5 "read_record" ["text"] (spReadR C_NoText C_NoNote K)) (F_Lflags : FnAt P w K mg base 1 "_law_flags" ["e"] (spFlags [C_NoRow, C_NoCell, C_Full, C_NoTarget, C_NoHand, C_Over, C_NoPlace, C_NoOrder, C_NoNote, C_NoCut, C_TooMany, C_Held, C_NoText, C_NoForm, C_NoneYet, C_NoNumber] C_RowError K)) (Bt : Blt mg) : FnOk P w K mg base CX0 6 f fd ["text"] (spRight64 K) := by
  refine F.ok sc_Lright (fun vs H Q E h => ?_) (fun cdv A outer s H vs Q E hr h => ?_)
  · obtain ⟨x, rfl, _⟩ := h
    rfl
  · obtain ⟨x, rfl, xl, k⟩ := h
    have hu64 := hr.units
    refine ⟨_, (pss_cons (ps_set (i := 1) sc_Lright.nd rfl (Or.inr rfl) (pe_fn F_Ldue (hr.mono (by decide)) (by rfl) (pa_cons (pv 0) pa_nil)))
      (pss_cons (ps_set (i := 2) sc_Lright.nd rfl (Or.inl rfl) pe_non)
      (pss_cons (ps_set (i := 3) sc_Lright.nd rfl (Or.inl rfl) pe_non)
      (pss_cons (ps_try (i := 4) rfl rfl rfl rfl sc_Lright.nd rfl rfl (by rfl) O_NoteError.bd O_NoteError.hd (fun _ _ _ _ hR => (pss_one (ps_set (i := 2) sc_Lright.nd rfl (Or.inl rfl) (pe_fnX F_read_record rfl hR (hr.mono (by decide)) (by rfl) (pa_cons (pv 0) pa_nil))))) (fun _ => (pss_one (ps_set (i := 3) sc_Lright.nd rfl (Or.inl rfl) (pv 4)))))
      (pss_cons (ps_if (pt_val (pe_callB (call_isiK (K := K) (cv := .ty "tuple") (c := .type "tuple") rfl rfl) (by rfl) Bt.b_isinstance bt_isinstance (pa_cons (pv 1) (pa_cons (pe_bltn (v := .ty "tuple") (by rfl) Bt.b_tuple bt_tuple rfl) pa_nil)))) (pss_one (ps_ret (pe_and (pe_cmpR op_isN (pv 3) pe_non (nomark _)) (pe_one (pe_cmpR (op_eqDK (K := K) rfl hu64) (pv 2) (pv 1) (nomark _)))))) pss_nil)
      (pss_one (ps_ret (pe_and (pe_cmpR op_notN (pv 3) pe_non (nomark _)) (pe_one (pe_cmpR (op_eqDK (K := K) rfl hu64) (pe_fn F_Lflags (hr.mono (by decide)) (by rfl) (pa_cons (pv 3) pa_nil)) (pe_comp rfl (N := ["k", "due"]) (own := ["k"]) (caps := [1]) (CompScope.of (by kernel_rfl)) (pi_range1 (by rfl) Bt.b_range (pa_cons pe_int pa_nil)) (fun _ _ _ _ => (pg_name (i := 0) (show List.Nodup (["k", "due"] : List Str) by decide +kernel) rfl (Or.inl rfl))) (fun _ _ _ _ => pts_nil) (fun _ _ _ _ => (pe_cmpR op_eq (pv 0) (pv 1) (nomark _)))) (nomark _))))))))))), ?_⟩
    refine ⟨_, rfl, x, rfl, xl, fun c0 r0 al t1 c1 a1 H1 R1 s1 => ?_, fun c0 r0 na H1 s1 => ?_, fun nc H1 s1 => ?_⟩
    · dsimp only [gName]
      refine set_c ?_
      refine set_c ?_
      refine seq_cps (fun σ H' => ∃ (t2 c2 a2 : Addr) (x4 : Option V), σ = [some (.str x), some (.ref t1), some (.ref t2), some .non, x4] ∧ RecAt H' t2 c2 a2 (countsG (rowOne x)) ((rowsT x).map noteG) ∧ Same H1 H') (fun D' hD' rt' => ?_) ?_
      · refine ⟨_, rfl, x, rfl, xl, fun _ _ _ t2 c2 a2 H2 R2 s2 => ?_, fun _ _ na => absurd al na, fun nc => absurd ⟨c0, r0⟩ nc⟩
        exact hD' _ _ ⟨t2, c2, a2, _, rfl, R2, s2⟩
      · rintro σ H2 ⟨t2, c2, a2, x4, rfl, R2, s2⟩
        refine ⟨_, rfl, _, _, true, rfl, .tup (s2 _ _ R1.1), isi_tuple_tuple K, true, rfl, iteT ?_⟩
        refine ⟨_, rfl, rfl, _, rfl, iteT ?_⟩
        refine ⟨_, rfl, _, rfl, _, _, dat_rec R2, dat_rec (R1.same s2), shaped_rec _ _, shaped_rec _ _, ?_⟩
        rw [if_neg Bool.false_ne_true, eqv_rec, decide_eq_true rfl, decide_eq_true rfl]
        exact k H2 (s1.trans s2)
    · dsimp only [gName]
      refine set_c ?_
      refine set_c ?_
      refine seq_cps (fun σ H' => ∃ (x2 x4 : Option V) (e : Addr), σ = [some (.str x), some (.int 8), x2, some (.ref e), x4] ∧ H' e = some (XO C_NoNote none e) ∧ Same H1 H') (fun D' hD' rt' => ?_) ?_
      · refine ⟨_, rfl, x, rfl, xl, fun _ _ al => absurd al na, fun _ _ _ H2 s2 => ?_, fun nc => absurd ⟨c0, r0⟩ nc⟩
        refine ⟨_, rfl, Q_NoNote_NoteError.sub, fun e1 he1 => ?_⟩
        exact ⟨_, rfl, hD' _ _ ⟨_, _, e1, rfl, upd_same, s2.trans (same_new he1)⟩⟩
      · rintro σ H2 ⟨x2, x4, e, rfl, he, s2⟩
        refine ⟨_, rfl, _, _, false, rfl, .int _, isi_int_tuple K, false, rfl, iteF ?_⟩
        refine ⟨_, rfl, rfl, _, rfl, iteT ?_⟩
        refine ⟨_, rfl, e, C_NoNote, 8, rfl, he, FN, fun l H3 hl s3 => ?_⟩
        refine ⟨18, rfl, by decide, by decide, fun D hD => ?_⟩
        refine comp_valR (n := 18) (fun j => some (V.bl (decide (j = 8)))) hD (by decide) (fun j H4 G F hj s4 kG kF => ?_) (fun H4 s4 e4 => ?_)
        · refine ⟨_, rfl, _, rfl, rfl, ?_⟩
          have ej : decide (V.int (0 + (j : Int)) = V.int 8) = decide (j = 8) := by
            rw [Bool.eq_iff_iff, decide_eq_true_iff, decide_eq_true_iff]
            exact ⟨fun z => by injection z with z; omega, fun z => by rw [z]; rfl⟩
          rw [ej]
          exact kF _ H4 (Same.refl _) rfl
        have e4 : H4 D = some (.lst ((flV 8).map V.bl)) := e4
        refine ⟨_, _, dat_list (s4 _ _ hl) (dats_bools _), dat_list e4 (dats_bools _), shaped_flags _, shaped_flags _, ?_⟩
        rw [if_neg Bool.false_ne_true, eqv_flags]
        exact k H4 (((s1.trans s2).trans s3).trans s4)
    · dsimp only [gName]
      refine set_c ?_
      refine set_c ?_
      refine seq_cps (fun σ H' => ∃ (x2 x4 : Option V) (e : Addr), σ = [some (.str x), some (.int 12), x2, some (.ref e), x4] ∧ H' e = some (XO C_NoText none e) ∧ Same H1 H') (fun D' hD' rt' => ?_) ?_
      · refine ⟨_, rfl, x, rfl, xl, fun c0 r0 _ => absurd ⟨c0, r0⟩ nc, fun c0 r0 _ => absurd ⟨c0, r0⟩ nc, fun _ H2 s2 => ?_⟩
        refine ⟨_, rfl, O_NoteError.pr.sub, fun e1 he1 => ?_⟩
        exact ⟨_, rfl, hD' _ _ ⟨_, _, e1, rfl, upd_same, s2.trans (same_new he1)⟩⟩
      · rintro σ H2 ⟨x2, x4, e, rfl, he, s2⟩
        refine ⟨_, rfl, _, _, false, rfl, .int _, isi_int_tuple K, false, rfl, iteF ?_⟩
        refine ⟨_, rfl, rfl, _, rfl, iteT ?_⟩
        refine ⟨_, rfl, e, C_NoText, 12, rfl, he, FT, fun l H3 hl s3 => ?_⟩
        refine ⟨18, rfl, by decide, by decide, fun D hD => ?_⟩
        refine comp_valR (n := 18) (fun j => some (V.bl (decide (j = 12)))) hD (by decide) (fun j H4 G F hj s4 kG kF => ?_) (fun H4 s4 e4 => ?_)
        · refine ⟨_, rfl, _, rfl, rfl, ?_⟩
          have ej : decide (V.int (0 + (j : Int)) = V.int 12) = decide (j = 12) := by
            rw [Bool.eq_iff_iff, decide_eq_true_iff, decide_eq_true_iff]
            exact ⟨fun z => by injection z with z; omega, fun z => by rw [z]; rfl⟩
          rw [ej]
          exact kF _ H4 (Same.refl _) rfl
        have e4 : H4 D = some (.lst ((flV 12).map V.bl)) := e4
        refine ⟨_, _, dat_list (s4 _ _ hl) (dats_bools _), dat_list e4 (dats_bools _), shaped_flags _, shaped_flags _, ?_⟩
        rw [if_neg Bool.false_ne_true, eqv_flags]
        exact k H4 (((s1.trans s2).trans s3).trans s4)

/-! ### texts drawn and spoilt: some text of bounded length -/
theorem Kp.new1 {r p : Addr} {H H' : Hp} {o : HO} (k : Kp r H H') (hp : H p = none) : Kp r H (upd H' p o) := fun b u e n => by rw [upd_ne (ne_of_none e hp)]; exact k b u e n
theorem Kp.smR {r : Addr} {H H1 H2 : Hp} (k : Kp r H H1) (s : Same H1 H2) : Kp r H H2 := k.trans (Kp.of_same s)
theorem at_le {l : List Str} {b : Nat} (h : ∀ x ∈ l, x.length ≤ b) {z : Int} (h0 : 0 ≤ z) (h1 : z < l.length) : ∃ y : Str, atI (l.map V.str) z = some (.str y) ∧ y.length ≤ b := by
  obtain ⟨n, rfl⟩ := Int.eq_ofNat_of_zero_le h0
  have nl : n < l.length := by omega
  exact ⟨l[n], atI_nat (by rw [List.getElem?_map, List.getElem?_eq_getElem nl]; rfl), h _ (List.getElem_mem nl)⟩
def spTxt (b : Nat) (K : PySem.W.Frag) : Sp := fun vs H Q _ => ∃ r : Addr, vs = [.ref r] ∧ ReelOk H r ∧ ∀ (y : Str) (H' : Hp), y.length ≤ b → ReelOk H' r → Kp r H H' → Q (.str y) H'
theorem num_le9 {i : Int} (i0 : 0 ≤ i) (i1 : i < 1000) : (Str.ofString (toString i)).length ≤ 3 := by
  have nk := num_ok' i0 i1
  simp only [numOk, Bool.and_eq_true, decide_eq_true_eq] at nk
  exact nk.1.1.2
def six : List Str := [Str.ofString "0", Str.ofString "1", Str.ofString "3", Str.ofString "299", Str.ofString "300", Str.ofString "301"]
def six2 : List Str := [Str.ofString "0", Str.ofString "1", Str.ofString "2", Str.ofString "298", Str.ofString "299", Str.ofString "300"]
theorem tot_le {b : Nat} : ∀ {l : List Str}, (∀ x ∈ l, x.length ≤ b) → tot l ≤ (b + 1) * l.length
  | [], _ => Nat.zero_le _
  | x :: l, h => by
    have := tot_le (b := b) (l := l) fun y hy => h y (by simp [hy])
    have := h x (by simp)
    rw [tot_cons, List.length_cons, Nat.mul_add]
    omega
theorem ok_freeT {f : Addr} {fd : FuncData} (F : Fun K "_law_free_text" "_law_free_text" s_Lfree_text f fd) (F_Ldraw : FnAt P w K mg base 1 "_law_draw" ["reel", "many"] (spDraw K)) (Bt : Blt mg) : FnOk P w K mg base CX0 2 f fd ["reel"] (spTxt 1400 K) := by
  refine F.ok sc_Lfree_text (fun vs H Q E h => ?_) (fun cdv A outer s H vs Q E hr h => ?_)
  · obtain ⟨r, rfl, _⟩ := h
    rfl
  · obtain ⟨r, rfl, R0, k⟩ := h
    refine ⟨_, (pss_cons (ps_setC (i := 1) rfl sc_Lfree_text.nd rfl (Or.inl rfl) (N := ["k", "reel"]) (own := ["k"]) (caps := [0]) (CompScope.of (by kernel_rfl)) (pi_range1 (by rfl) Bt.b_range (pa_cons (pe_fn F_Ldraw (hr.mono (by decide)) (by rfl) (pa_cons (pv 0) (pa_cons pe_int pa_nil))) pa_nil)) (fun _ _ _ _ => (pg_name (i := 0) (show List.Nodup (["k", "reel"] : List Str) by decide +kernel) rfl (Or.inl rfl))) (fun _ _ _ _ => pts_nil) (fun _ _ _ _ => (pe_ix (ix_listK (K := K) rfl) (pe_lst (pa_cons pe_str (pa_cons pe_str (pa_cons pe_str (pa_cons pe_str (pa_cons pe_str (pa_cons pe_str pa_nil))))))) (pe_fn F_Ldraw (hr.mono (by decide)) (by rfl) (pa_cons (pv 1) (pa_cons pe_int pa_nil))) (fun _ _ => rfl))))
      (pss_cons (ps_set (i := 2) sc_Lfree_text.nd rfl (Or.inl rfl) (pe_lst (pa_cons (pe_bmK (K := K) rfl PySem.F.plainAttrs_str PySem.F.slot_str_join PySem.F.type_str_join (mt_joinK (K := K) rfl) pe_str (pa_cons (pe_op op_cat (pe_lst (pa_cons pe_str pa_nil)) (pv 1)) pa_nil)) pa_nil)))
      (pss_cons (ps_for PassesOwn.never rfl (pi_range1 (by rfl) Bt.b_range (pa_cons (pe_fn F_Ldraw (hr.mono (by decide)) (by rfl) (pa_cons (pv 0) (pa_cons pe_int pa_nil))) pa_nil)) (pg_name (i := 3) sc_Lfree_text.nd rfl (Or.inl rfl))
      (pss_cons (ps_set (i := 4) sc_Lfree_text.nd rfl (Or.inl rfl) (pe_lst pa_nil))
      (pss_cons (ps_for PassesOwn.never rfl (pi_range1 (by rfl) Bt.b_range (pa_cons pe_int pa_nil)) (pg_name (i := 5) sc_Lfree_text.nd rfl (Or.inl rfl))
      (pss_one (ps_expr (pe_appendK (K := K) rfl (pv 4) (pa_cons (pe_op op_add_str (pe_op op_add_str (pe_callTy call_str_int (by rfl) Bt.b_str bt_str (pa_cons (pe_fn F_Ldraw (hr.mono (by decide)) (by rfl) (pa_cons (pv 0) (pa_cons pe_int pa_nil))) pa_nil)) pe_str) (pe_ix (ix_listK (K := K) rfl) (pe_lst (pa_cons pe_str (pa_cons pe_str (pa_cons pe_str (pa_cons pe_str (pa_cons pe_str (pa_cons pe_str pa_nil))))))) (pe_fn F_Ldraw (hr.mono (by decide)) (by rfl) (pa_cons (pv 0) (pa_cons pe_int pa_nil))) (fun _ _ => rfl))) pa_nil)))))
      (pss_one (ps_expr (pe_appendK (K := K) rfl (pv 2) (pa_cons (pe_bmK (K := K) rfl PySem.F.plainAttrs_str PySem.F.slot_str_join PySem.F.type_str_join (mt_joinK (K := K) rfl) pe_str (pa_cons (pv 4) pa_nil)) pa_nil)))))))
      (pss_one (ps_ret (pe_bmK (K := K) rfl PySem.F.plainAttrs_str PySem.F.slot_str_join PySem.F.type_str_join (mt_joinK (K := K) rfl) pe_str (pa_cons (pv 2) pa_nil))))))), ?_⟩
    refine ⟨_, rfl, r, 11, rfl, R0, by decide, by decide, fun n H1 n0 n1 R1 k1 => ⟨n, rfl, by omega, by omega, fun D hD => ?_⟩⟩
    have nDr := R1.ne hD
    refine comp_range (lo := 0) (n := n.toNat) (fun i σ H2 => (∃ v, σ = [v, some (.ref r)]) ∧ ∃ xs : List Str, H2 D = some (.lst (xs.map V.str)) ∧ xs.length = i ∧ (∀ x ∈ xs, x.length ≤ 3) ∧ ReelOk H2 r ∧ Kp r H1 H2) ⟨⟨none, rfl⟩, [], upd_same, rfl, fun x hx => by simp at hx, R1.keep (same_new hD), Kp.of_same (same_new hD)⟩ ?_ ?_
    · rintro i σ H2 hi ⟨⟨v, rfl⟩, xs, e2, xl, x3, R2, k2⟩
      refine ⟨(by show 6 ≤ sizeLine; decide), fun q hq => ?_⟩
      have sq := same_new (o := HO.lst (six.map V.str)) hq
      have nqr := R2.ne hq
      refine ⟨_, rfl, r, 6, rfl, R2.keep sq, by decide, by decide, fun z H3 z0 z1 R3 k3 => ?_⟩
      obtain ⟨y, ey, yl⟩ := at_le (l := six) (b := 3) (by decide +kernel) z0 z1
      refine ⟨q, _, _, _, rfl, rfl, SqL.of (k3 _ _ upd_same nqr), ey, ?_⟩
      have e3 := k3 _ _ (sq _ _ e2) nDr
      have kD : Kp D H3 (upd H3 D (.lst (xs.map V.str ++ [V.str y]))) := Kp.set
      refine ⟨_, e3, by rw [List.length_map, sizeLine_eq]; omega, ⟨_, rfl⟩, xs ++ [y], by rw [upd_same, List.map_append]; rfl, by simp [xl], fun x hx => ?_, R3.kp kD nDr.symm, Kp.new1 (Kp.trans (Kp.smR k2 sq) k3) hD⟩
      rcases List.mem_append.mp hx with hx | hx
      · exact x3 x hx
      · rw [List.mem_singleton.mp hx]; exact yl
    · rintro σ H2 ⟨_, xs, e2, xl, x3, R2, k2⟩
      have K2 : Kp r H H2 := Kp.trans k1 k2
      have t3 := tot_le x3
      refine ⟨rfl, (by show 1 ≤ sizeLine; decide), fun q hq => ?_⟩
      have sq := same_new (o := HO.lst [V.str (Str.ofString "counts")]) hq
      refine ⟨_, rfl, q, D, _, _, rfl, rfl, upd_same, sq _ _ e2, by rw [List.length_map, sizeLine_eq]; simp; omega, fun q2 hq2 => ?_⟩
      have sq2 := same_new (o := HO.lst ([V.str (Str.ofString "counts")] ++ xs.map V.str)) hq2
      have sx := sum_tot (Str.ofString "counts" :: xs)
      rw [tot_cons, len_counts] at sx
      have tj := (tot_join (Str.ofString " ") rfl (Str.ofString "counts" :: xs)).1
      rw [tot_cons, len_counts] at tj
      refine ⟨_, q2, Str.ofString "counts" :: xs, rfl, rfl, SqL.of upd_same, by rw [len_sp]; omega, (by show 1 ≤ sizeLine; decide), fun T hT => ?_⟩
      generalize Txt.join (Str.ofString " ") (Str.ofString "counts" :: xs) = w0 at tj ⊢
      have sT := same_new (o := HO.lst [V.str w0]) hT
      have S3 := (sq.trans sq2).trans sT
      have R3 := R2.keep S3
      have K3 := Kp.smR K2 S3
      have nTr := (R2.keep (sq.trans sq2)).ne hT
      have eT : (upd (upd (upd H2 q (.lst [V.str (Str.ofString "counts")])) q2 (.lst ([V.str (Str.ofString "counts")] ++ xs.map V.str))) T (.lst [V.str w0])) T = some (.lst ([w0].map V.str)) := upd_same
      have hT0 : H T = none := Kp.new K2 (same_none (sq.trans sq2) hT) (ReelOk.at R2)
      generalize (upd (upd (upd H2 q (.lst [V.str (Str.ofString "counts")])) q2 (.lst ([V.str (Str.ofString "counts")] ++ xs.map V.str))) T (.lst [V.str w0])) = H3 at R3 K3 eT ⊢
      refine ⟨_, rfl, r, 5, rfl, R3, by decide, by decide, fun m H4 m0 m1 R4 k4 => ⟨m, rfl, by omega, by omega, ?_⟩⟩
      refine for_range (lo := 0) (n := m.toNat) (fun i σ H5 => ∃ (x3 x4 x5 : Option V) (ys : List Str), σ = [some (.ref r), some (.ref D), some (.ref T), x3, x4, x5] ∧ H5 T = some (.lst (ys.map V.str)) ∧ ys.length = i + 1 ∧ (∀ y ∈ ys, y.length ≤ 80) ∧ ReelOk H5 r ∧ Kp r H H5)
        ⟨none, none, none, [w0], rfl, k4 _ _ eT nTr, rfl, fun y hy => by rw [List.mem_singleton.mp hy]; omega, R4, Kp.trans K3 k4⟩ ?_ ?_
      · rintro i σ H5 hi ⟨x3, x4, x5, ys, rfl, e5, yl, y8, R5, K5⟩
        refine ⟨(by show 0 ≤ sizeLine; decide), fun W hW => ?_⟩
        have sW := same_new (o := HO.lst []) hW
        have nWr := R5.ne hW
        have hW0 := Kp.new K5 hW (ReelOk.at R5)
        have nTW : T ≠ W := ne_of_none e5 hW
        refine ⟨2, rfl, by decide, by decide, ?_⟩
        refine for_range (lo := 0) (n := 2) (fun j σ H6 => ∃ (x5 : Option V) (zs : List Str), σ = [some (.ref r), some (.ref D), some (.ref T), some (.int (0 + (i : Int))), some (.ref W), x5] ∧ H6 W = some (.lst (zs.map V.str)) ∧ zs.length = j ∧ (∀ z ∈ zs, z.length ≤ 8) ∧ H6 T = some (.lst (ys.map V.str)) ∧ ReelOk H6 r ∧ Kp r H H6)
          ⟨x5, [], rfl, upd_same, rfl, fun z hz => by simp at hz, sW _ _ e5, R5.keep sW, Kp.smR K5 sW⟩ ?_ ?_
        · rintro j σ H6 hj ⟨x5, zs, rfl, e6, zl, z8, eT6, R6, K6⟩
          refine ⟨_, rfl, .inl ⟨rfl, _, SqL.of e6⟩, _, rfl, r, 10, rfl, R6, by decide, by decide, fun a H7 a0 a1 R7 k7 => ?_⟩
          have nl := num_le9 a0 (by omega)
          refine ⟨a, rfl, num_log a0 (by omega), _, _, rfl, rfl, by rw [len_dot, sizeLine_eq]; omega, (by show 6 ≤ sizeLine; decide), fun q3 hq3 => ?_⟩
          have sq3 := same_new (o := HO.lst (six2.map V.str)) hq3
          have nqr := R7.ne hq3
          refine ⟨_, rfl, r, 6, rfl, R7.keep sq3, by decide, by decide, fun z H8 z0 z1 R8 k8 => ?_⟩
          obtain ⟨y, ey, yl'⟩ := at_le (l := six2) (b := 3) (by decide +kernel) z0 z1
          refine ⟨q3, _, _, _, rfl, rfl, SqL.of (k8 _ _ upd_same nqr), ey, _, _, rfl, rfl, by rw [Str.length_append, len_dot, sizeLine_eq]; omega, ?_⟩
          have eW8 := k8 _ _ (sq3 _ _ (k7 _ _ e6 nWr)) nWr
          have eT8 := k8 _ _ (sq3 _ _ (k7 _ _ eT6 nTr)) nTr
          refine ⟨W, _, _, rfl, rfl, eW8, by rw [List.length_map, sizeLine_eq]; omega, ?_⟩
          have kW : Kp W H8 (upd H8 W (.lst (zs.map V.str ++ [V.str (Str.ofString (toString a) ++ Str.ofString "." ++ y)]))) := Kp.set
          refine ⟨_, zs ++ [Str.ofString (toString a) ++ Str.ofString "." ++ y], rfl, by rw [upd_same, List.map_append]; rfl, by simp [zl], fun z hz => ?_, (upd_ne nTW).trans eT8, R8.kp kW nWr.symm, Kp.new1 (Kp.trans (Kp.smR (Kp.trans K6 k7) sq3) k8) hW0⟩
          rcases List.mem_append.mp hz with hz | hz
          · exact z8 z hz
          · rw [List.mem_singleton.mp hz, Str.length_append, Str.length_append, len_dot]; omega
        · rintro σ H6 ⟨x5, zs, rfl, e6, zl, z8, eT6, R6, K6⟩
          have sx := sum_tot zs
          have tz := tot_le z8
          have tj := (tot_join (Str.ofString " ") rfl zs).1
          refine ⟨_, rfl, .inl ⟨rfl, _, SqL.of eT6⟩, rfl, _, rfl, _, W, zs, rfl, rfl, SqL.of e6, by rw [len_sp]; omega, T, _, _, rfl, rfl, eT6, by rw [List.length_map, sizeLine_eq]; omega, ?_⟩
          have kT : Kp T H6 (upd H6 T (.lst (ys.map V.str ++ [V.str (Txt.join (Str.ofString " ") zs)]))) := Kp.set
          refine ⟨_, _, _, ys ++ [Txt.join (Str.ofString " ") zs], rfl, by rw [upd_same, List.map_append]; rfl, by simp [yl], fun y hy => ?_, R6.kp kT nTr.symm, Kp.new1 K6 hT0⟩
          rcases List.mem_append.mp hy with hy | hy
          · exact y8 y hy
          · rw [List.mem_singleton.mp hy]; omega
      · rintro σ H5 ⟨x3, x4, x5, ys, rfl, e5, yl, y8, R5, K5⟩
        have sx := sum_tot ys
        have ty := tot_le y8
        have tj := (tot_join (Str.ofString "\n") rfl ys).1
        exact ⟨rfl, _, rfl, _, T, ys, rfl, rfl, SqL.of e5, by rw [len_nl]; omega, k _ H5 (by omega) R5 K5⟩
def sgnT : Str := Str.ofString " !\"#$&'()*+,-./0123456789:;<=>?@QWERTYUIOPASDFGHJKLZXCVBNM[\\]^_`abcdefghijklmnopqrstuvwxyz{|}~\n"
theorem sgn_len : sgnT.cps.toList.length = sgnT.length := by simp [Str.length]
theorem sgn_95 : 0 < sgnT.length ∧ sgnT.length < 200 := by decide +kernel
def spSigns (K : PySem.W.Frag) : Sp := fun vs H Q _ => vs = [] ∧ Q (.str sgnT) H
theorem ok_signs {f : Addr} {fd : FuncData} (F : Fun K "_law_signs" "_law_signs" s_Lsigns f fd) : FnOk P w K mg base CX0 1 f fd [] (spSigns K) := by
  refine F.ok sc_Lsigns (fun vs H Q E h => ?_) (fun cdv A outer s H vs Q E hr h => ?_)
  · obtain ⟨rfl, _⟩ := h
    rfl
  · obtain ⟨rfl, k⟩ := h
    refine ⟨_, (pss_one (ps_ret pe_str)), ?_⟩
    exact k
def spSignSp (K : PySem.W.Frag) : Sp := fun vs H Q _ => ∃ (r : Addr) (x : Str), vs = [.ref r, .str x] ∧ ReelOk H r ∧ x.length ≤ 20000 ∧ ∀ (y : Str) (H' : Hp), y.length ≤ 2 * x.length + 1 → ReelOk H' r → Kp r H H' → Q (.str y) H'
theorem ok_signSp {f : Addr} {fd : FuncData} (F : Fun K "_law_sign_spoilt" "_law_sign_spoilt" s_Lsign_spoilt f fd) (F_Ldraw : FnAt P w K mg base 1 "_law_draw" ["reel", "many"] (spDraw K)) (F_Lsigns : FnAt P w K mg base 1 "_law_signs" [] (spSigns K)) (Bt : Blt mg) : FnOk P w K mg base CX0 2 f fd ["reel", "text"] (spSignSp K) := by
  refine F.ok sc_Lsign_spoilt (fun vs H Q E h => ?_) (fun cdv A outer s H vs Q E hr h => ?_)
  · obtain ⟨r, x, rfl, _⟩ := h
    rfl
  · obtain ⟨r, x, rfl, R0, xl, k⟩ := h
    refine ⟨_, (pss_cons (ps_set (i := 2) sc_Lsign_spoilt.nd rfl (Or.inl rfl) (pe_fn F_Ldraw (hr.mono (by decide)) (by rfl) (pa_cons (pv 0) (pa_cons pe_int pa_nil))))
      (pss_cons (ps_set (i := 3) sc_Lsign_spoilt.nd rfl (Or.inl rfl) (pe_fn F_Ldraw (hr.mono (by decide)) (by rfl) (pa_cons (pv 0) (pa_cons (pe_op op_add (pe_callB call_lenS (by rfl) Bt.b_len bt_len (pa_cons (pv 1) pa_nil)) pe_int) pa_nil))))
      (pss_cons (ps_set (i := 4) sc_Lsign_spoilt.nd rfl (Or.inl rfl) (pe_ix ix_str (pe_fn0 F_Lsigns (hr.mono (by decide)) (by rfl)) (pe_fn F_Ldraw (hr.mono (by decide)) (by rfl) (pa_cons (pv 0) (pa_cons (pe_callB call_lenS (by rfl) Bt.b_len bt_len (pa_cons (pe_fn0 F_Lsigns (hr.mono (by decide)) (by rfl)) pa_nil)) pa_nil))) (fun _ _ => rfl)))
      (pss_one (ps_ret (pe_ix (ix_listK (K := K) rfl) (pe_lst (pa_cons (pe_op op_add_str (pe_slice sl_str (pv 1) po_none (po_some (pv 3))) (pe_slice sl_str (pv 1) (po_some (pe_op op_add (pv 3) pe_int)) po_none)) (pa_cons (pe_op op_add_str (pe_op op_add_str (pe_slice sl_str (pv 1) po_none (po_some (pv 3))) (pv 4)) (pe_slice sl_str (pv 1) (po_some (pv 3)) po_none)) (pa_cons (pe_op op_add_str (pe_op op_add_str (pe_slice sl_str (pv 1) po_none (po_some (pv 3))) (pv 4)) (pe_slice sl_str (pv 1) (po_some (pe_op op_add (pv 3) pe_int)) po_none)) pa_nil)))) (pv 2) (fun _ _ => rfl))))))), ?_⟩
    have hz : x.length ≤ sizeLine := by rw [sizeLine_eq]; omega
    have s95 := sgn_95
    have hs : sgnT.length ≤ sizeLine := by rw [sizeLine_eq]; omega
    refine ⟨_, rfl, r, 3, rfl, R0, by decide, by decide, fun kd H1 z0 z1 R1 k1 => ?_⟩
    refine ⟨_, rfl, _, rfl, x, rfl, hz, _, _, rfl, rfl, r, _, rfl, R1, by omega, by omega, fun at_ H2 a0 a1 R2 k2 => ?_⟩
    refine ⟨rfl, _, rfl, rfl, sgnT, rfl, hs, r, _, rfl, R2, by omega, by omega, fun sg H3 s0 s1 R3 k3 => ?_⟩
    obtain ⟨n, rfl⟩ := Int.eq_ofNat_of_zero_le s0
    obtain ⟨c, ec⟩ : ∃ c, sgnT.cps.toList[n]? = some c := ⟨_, List.getElem?_eq_getElem (by rw [sgn_len]; omega)⟩
    refine ⟨sgnT, (n : Int), c, rfl, rfl, hs, atI_nat ec, ?_⟩
    have c2 : ∀ lo hi, (Txt.slice x lo hi).length ≤ x.length := fun lo hi => Txt.slice_le x lo hi
    have a1' := c2 none (some at_)
    have a2' := c2 (some (at_ + 1)) none
    have a3' := c2 (some at_) none
    have l1 : (⟨#[c]⟩ : Str).length = 1 := rfl
    refine ⟨_, rfl, _, rfl, _, rfl, x, rfl, hz, _, rfl, _, rfl, _, _, rfl, rfl, _, rfl, x, rfl, hz, _, _, rfl, rfl, by rw [sizeLine_eq]; omega, ?_⟩
    refine ⟨_, rfl, _, rfl, _, rfl, x, rfl, hz, _, rfl, _, _, rfl, rfl, by rw [sizeLine_eq]; omega, _, rfl, _, rfl, _, rfl, x, rfl, hz, _, _, rfl, rfl, by rw [Str.length_append, sizeLine_eq]; omega, ?_⟩
    refine ⟨_, rfl, _, rfl, _, rfl, x, rfl, hz, _, rfl, _, _, rfl, rfl, by rw [sizeLine_eq]; omega, _, rfl, _, rfl, _, _, rfl, rfl, _, rfl, x, rfl, hz, _, _, rfl, rfl, by rw [Str.length_append, sizeLine_eq]; omega, (by show 3 ≤ sizeLine; decide), fun q hq => ?_⟩
    have sq := same_new (o := HO.lst [V.str (Txt.slice x none (some at_) ++ Txt.slice x (some (at_ + 1)) none), V.str (Txt.slice x none (some at_) ++ ⟨#[c]⟩ ++ Txt.slice x (some at_) none), V.str (Txt.slice x none (some at_) ++ ⟨#[c]⟩ ++ Txt.slice x (some (at_ + 1)) none)]) hq
    have KK := Kp.smR (Kp.trans (Kp.trans k1 k2) k3) sq
    have RR := R3.keep sq
    obtain ⟨y, ey, yl⟩ : ∃ y : Str, atI [V.str (Txt.slice x none (some at_) ++ Txt.slice x (some (at_ + 1)) none), V.str (Txt.slice x none (some at_) ++ ⟨#[c]⟩ ++ Txt.slice x (some at_) none), V.str (Txt.slice x none (some at_) ++ ⟨#[c]⟩ ++ Txt.slice x (some (at_ + 1)) none)] kd = some (.str y) ∧ y.length ≤ 2 * x.length + 1 := by
      have : kd = 0 ∨ kd = 1 ∨ kd = 2 := by omega
      rcases this with rfl | rfl | rfl
      · exact ⟨_, rfl, by rw [Str.length_append]; omega⟩
      · exact ⟨_, rfl, by rw [Str.length_append, Str.length_append]; omega⟩
      · exact ⟨_, rfl, by rw [Str.length_append, Str.length_append]; omega⟩
    exact ⟨_, rfl, _, _, _, _, rfl, rfl, SqL.of upd_same, ey, k y _ yl RR KK⟩

/-! ### a word of it spoilt -/
def tt (xss : List (List Str)) : Nat := (xss.map fun xs => tot xs + 1).sum
theorem tt_app (a b : List (List Str)) : tt (a ++ b) = tt a + tt b := by unfold tt; rw [List.map_append, List.sum_append]
theorem tt_cons (x : List Str) (a : List (List Str)) : tt (x :: a) = tot x + 1 + tt a := by unfold tt; rw [List.map_cons, List.sum_cons]
theorem tt_set : ∀ (l : List (List Str)) (i : Nat) (x y : List Str), l[i]? = some x → tt (l.set i y) + tot x = tt l + tot y
  | [], i, x, y, h => by simp at h
  | z :: l, 0, x, y, h => by
    cases h
    rw [List.set_cons_zero, tt_cons, tt_cons]
    omega
  | z :: l, i + 1, x, y, h => by
    rw [List.set_cons_succ, tt_cons, tt_cons]
    have := tt_set l i x y (by simpa using h)
    omega
theorem tt_mem : ∀ {l : List (List Str)} {x : List Str}, x ∈ l → tot x + 1 ≤ tt l
  | z :: l, x, h => by
    rw [tt_cons]
    rcases List.mem_cons.mp h with rfl | h
    · omega
    · have := tt_mem h; omega
theorem tt_len (l : List (List Str)) : l.length ≤ tt l := by
  induction l with
  | nil => exact Nat.le_refl _
  | cons x l ih => rw [tt_cons, List.length_cons]; omega
theorem tt_drop : ∀ (l : List (List Str)) (i : Nat) (x : List Str), l[i]? = some x → tt (l.take i) + (tot x + 1) + tt (l.drop (i + 1)) = tt l
  | [], i, x, h => by simp at h
  | z :: l, 0, x, h => by
    cases h
    rw [List.take_zero, List.drop_succ_cons, List.drop_zero, tt_cons, show tt [] = 0 from rfl]
    omega
  | z :: l, i + 1, x, h => by
    rw [List.take_succ_cons, List.drop_succ_cons, tt_cons, tt_cons]
    have := tt_drop l i x (by simpa using h)
    omega
theorem tot_at : ∀ (l : List Str) (i : Nat) (x : Str), l[i]? = some x → tot (l.take i) + (x.length + 1) + tot (l.drop (i + 1)) = tot l
  | [], i, x, h => by simp at h
  | z :: l, 0, x, h => by
    cases h
    rw [List.take_zero, List.drop_succ_cons, List.drop_zero, tot_cons, show tot [] = 0 from rfl]
    omega
  | z :: l, i + 1, x, h => by
    rw [List.take_succ_cons, List.drop_succ_cons, tot_cons, tot_cons]
    have := tot_at l i x (by simpa using h)
    omega
structure Rws (H : Hp) (p : Addr) (qs : List Addr) (xss : List (List Str)) : Prop where
  e : H p = some (.lst (qs.map V.ref))
  l : qs.length = xss.length
  a : ∀ (i : Nat) (q : Addr), qs[i]? = some q → ∃ xs, xss[i]? = some xs ∧ H q = some (.lst (xs.map V.str))
theorem Rws.same {H H' : Hp} {p : Addr} {qs : List Addr} {xss : List (List Str)} (R : Rws H p qs xss) (s : Same H H') : Rws H' p qs xss :=
  ⟨s _ _ R.e, R.l, fun i q h => let ⟨xs, a, b⟩ := R.a i q h; ⟨xs, a, s _ _ b⟩⟩
theorem Rws.kp {H H' : Hp} {p r : Addr} {qs : List Addr} {xss : List (List Str)} (R : Rws H p qs xss) (ok : ReelOk H r) (k : Kp r H H') : Rws H' p qs xss := by
  have n : ∀ {q : Addr} {l : List V}, H q = some (.lst (l)) → (∀ i t, l ≠ [V.int i, V.int t]) → q ≠ r := fun {q l} e h z => by
    obtain ⟨f, t, er, _⟩ := ok
    rw [z, er] at e
    injection e with e
    injection e with e
    exact h f t e.symm
  refine ⟨k _ _ R.e (n R.e fun i t z => ?_), R.l, fun i q h => ?_⟩
  · match qs, z with
    | _ :: _, z => injection z with z _; cases z
  · obtain ⟨xs, a, b⟩ := R.a i q h
    refine ⟨xs, a, k _ _ b (n b fun i t z => ?_)⟩
    match xs, z with
    | _ :: _, z => injection z with z _; cases z
/-- one row is another one -/
theorem Rws.set {H : Hp} {p q : Addr} {qs : List Addr} {xss : List (List Str)} {ys : List Str} {i : Nat} (R : Rws H p qs xss) (hq : H q = some (.lst (ys.map V.str))) (np : p ≠ q) (hi : i < qs.length) : Rws (upd H p (.lst ((qs.map V.ref).set i (.ref q)))) p (qs.set i q) (xss.set i ys) := by
  refine ⟨by rw [upd_same, List.map_set], by rw [List.length_set, List.length_set, R.l], fun j u h => ?_⟩
  have off : ∀ {u : Addr} {xs : List Str}, H u = some (.lst (xs.map V.str)) → u ≠ p := fun {u xs} e z => by
    rw [z, R.e] at e
    injection e with e
    injection e with e
    match qs, xs, e with
    | [], [], _ => exact absurd hi (Nat.not_lt_zero i)
    | _ :: _, _ :: _, e => injection e with e _; cases e
  rw [List.getElem?_set] at h
  by_cases z : i = j
  · subst z
    rw [if_pos rfl, if_pos hi] at h
    cases h
    exact ⟨ys, by rw [List.getElem?_set, if_pos rfl, if_pos (by rw [← R.l]; exact hi)], by rw [upd_ne np.symm]; exact hq⟩
  · rw [if_neg z] at h
    obtain ⟨xs, a, b⟩ := R.a j u h
    exact ⟨xs, by rw [List.getElem?_set, if_neg z]; exact a, by rw [upd_ne (off b)]; exact b⟩
def ARow (H : Hp) (qs : List Addr) (xss : List (List Str)) : Prop := qs.length = xss.length ∧ ∀ (i : Nat) (q : Addr), qs[i]? = some q → ∃ xs, xss[i]? = some xs ∧ H q = some (.lst (xs.map V.str))
theorem Rws.row {H : Hp} {p : Addr} {qs : List Addr} {xss : List (List Str)} (R : Rws H p qs xss) : ARow H qs xss := ⟨R.l, R.a⟩
theorem ARow.app {H : Hp} {qs us : List Addr} {xss yss : List (List Str)} (a : ARow H qs xss) (b : ARow H us yss) : ARow H (qs ++ us) (xss ++ yss) := by
  refine ⟨by rw [List.length_append, List.length_append, a.1, b.1], fun i q h => ?_⟩
  by_cases z : i < qs.length
  · rw [List.getElem?_append_left z] at h
    rw [List.getElem?_append_left (by rw [← a.1]; exact z)]
    exact a.2 i q h
  · rw [List.getElem?_append_right (by omega)] at h
    rw [List.getElem?_append_right (by rw [← a.1]; omega), ← a.1]
    exact b.2 _ q h
theorem ARow.take {H : Hp} {qs : List Addr} {xss : List (List Str)} (a : ARow H qs xss) (n : Nat) : ARow H (qs.take n) (xss.take n) := by
  refine ⟨by rw [List.length_take, List.length_take, a.1], fun i q h => ?_⟩
  rw [List.getElem?_take] at h ⊢
  split at h
  · rename_i z
    rw [if_pos z]
    exact a.2 i q h
  · cases h
theorem ARow.drop {H : Hp} {qs : List Addr} {xss : List (List Str)} (a : ARow H qs xss) (n : Nat) : ARow H (qs.drop n) (xss.drop n) := by
  refine ⟨by rw [List.length_drop, List.length_drop, a.1], fun i q h => ?_⟩
  rw [List.getElem?_drop] at h ⊢
  exact a.2 _ q h
theorem ARow.same {H H' : Hp} {qs : List Addr} {xss : List (List Str)} (a : ARow H qs xss) (s : Same H H') : ARow H' qs xss := ⟨a.1, fun i q h => let ⟨xs, u, v⟩ := a.2 i q h; ⟨xs, u, s _ _ v⟩⟩
abbrev odd1 : List Str := [Str.ofString "", Str.ofString "counts", Str.ofString "1.", Str.ofString ".1", Str.ofString "0.0.0", Str.ofString "01", Str.ofString "1.01", Str.ofString "-1", Str.ofString "+1", Str.ofString "1_0", Str.ofString "300", Str.ofString "1000", Str.ofString "0x1", Str.ofString "9.0", Str.ofString "a"]
theorem cat_rep_len (n : Nat) (x : Str) : (cat (List.replicate n x)).length = n * x.length := by
  induction n with
  | zero => rw [Nat.zero_mul]; rfl
  | succ n ih => rw [List.replicate_succ, cat, Str.length_append, ih, Nat.succ_mul]; omega
def spWordSp (K : PySem.W.Frag) : Sp := fun vs H Q _ => ∃ (r : Addr) (x : Str), vs = [.ref r, .str x] ∧ ReelOk H r ∧ x.length ≤ 20000 ∧ ∀ (y : Str) (H' : Hp), y.length ≤ 4 * x.length + 5010 → ReelOk H' r → Kp r H H' → Q (.str y) H'
theorem ok_wordSp {f : Addr} {fd : FuncData} (F : Fun K "_law_word_spoilt" "_law_word_spoilt" s_Lword_spoilt f fd) (F_Ldraw : FnAt P w K mg base 1 "_law_draw" ["reel", "many"] (spDraw K)) (Bt : Blt mg) : FnOk P w K mg base CX0 2 f fd ["reel", "text"] (spWordSp K) := by
  refine F.ok sc_Lword_spoilt (fun vs H Q E h => ?_) (fun cdv A outer s H vs Q E hr h => ?_)
  · obtain ⟨r, x, rfl, _⟩ := h
    rfl
  · obtain ⟨r, x, rfl, R0, xl, k⟩ := h
    refine ⟨_, (@pss_cons _ _ _ _ _ (@ps_set _ _ 2 _ _ _ _ sc_Lword_spoilt.nd rfl (Or.inl rfl) (@pe_lstC _ _ _ ["", "counts", "1.", ".1", "0.0.0", "01", "1.01", "-1", "+1", "1_0", "300", "1000", "0x1", "9.0", "a"] (by decide +kernel)) (by rfl) (by first | exact Or.inr rfl | exact Or.inl rfl))
      (pss_cons (ps_set (i := 2) sc_Lword_spoilt.nd rfl (Or.inl rfl) (pe_op op_cat (pv 2) (pe_lst (pa_cons (pe_op op_repS pe_str pe_int) (pa_cons (pe_op op_add_str pe_str (pe_op op_repS pe_str pe_int)) pa_nil)))))
      (pss_cons (ps_setC (i := 3) rfl sc_Lword_spoilt.nd rfl (Or.inl rfl) (N := ["row"]) (own := ["row"]) (caps := []) (CompScope.of (by kernel_rfl)) (pi_listK (K := K) rfl (pe_bmK (K := K) rfl PySem.F.plainAttrs_str PySem.F.slot_str_split PySem.F.type_str_split mt_split (pv 1) (pa_cons pe_str pa_nil))) (fun _ _ _ _ => (pg_name (i := 0) (show List.Nodup (["row"] : List Str) by decide +kernel) rfl (Or.inl rfl))) (fun _ _ _ _ => pts_nil) (fun _ _ _ _ => (pe_bmK (K := K) rfl PySem.F.plainAttrs_str PySem.F.slot_str_split PySem.F.type_str_split mt_split (pv 0) (pa_cons pe_str pa_nil))))
      (pss_cons (ps_set (i := 4) sc_Lword_spoilt.nd rfl (Or.inl rfl) (pe_fn F_Ldraw (hr.mono (by decide)) (by rfl) (pa_cons (pv 0) (pa_cons pe_int pa_nil))))
      (pss_cons (ps_set (i := 5) sc_Lword_spoilt.nd rfl (Or.inl rfl) (pe_fn F_Ldraw (hr.mono (by decide)) (by rfl) (pa_cons (pv 0) (pa_cons (pe_callB (call_len_seqK (K := K) rfl) (by rfl) Bt.b_len bt_len (pa_cons (pv 3) pa_nil)) pa_nil))))
      (pss_cons (ps_set (i := 6) sc_Lword_spoilt.nd rfl (Or.inl rfl) (pe_fn F_Ldraw (hr.mono (by decide)) (by rfl) (pa_cons (pv 0) (pa_cons (pe_callB (call_len_seqK (K := K) rfl) (by rfl) Bt.b_len bt_len (pa_cons (pe_ix (ix_listK (K := K) rfl) (pv 3) (pv 5) (fun _ _ => rfl)) pa_nil)) pa_nil))))
      (pss_cons (ps_set (i := 7) sc_Lword_spoilt.nd rfl (Or.inl rfl) (pe_ix (ix_listK (K := K) rfl) (pv 2) (pe_fn F_Ldraw (hr.mono (by decide)) (by rfl) (pa_cons (pv 0) (pa_cons (pe_callB (call_len_seqK (K := K) rfl) (by rfl) Bt.b_len bt_len (pa_cons (pv 2) pa_nil)) pa_nil))) (fun _ _ => rfl)))
      (pss_cons (ps_set (i := 8) sc_Lword_spoilt.nd rfl (Or.inl rfl) (pe_ix (ix_listK (K := K) rfl) (pv 3) (pv 5) (fun _ _ => rfl)))
      (pss_cons (ps_if (pt_cmpR op_lt (pv 4) pe_int (nomark _)) (pss_one (ps_asg (pe_op op_cat (pe_op op_cat (pe_slice (sl_listK (K := K) rfl) (pv 8) po_none (po_some (pv 6))) (pe_ix (ix_listK (K := K) rfl) (pe_lst (pa_cons (pe_lst pa_nil) (pa_cons (pe_op op_rep (pe_lst (pa_cons (pe_ix (ix_listK (K := K) rfl) (pv 8) (pv 6) (fun _ _ => rfl)) pa_nil)) pe_int) (pa_cons (pe_lst (pa_cons (pv 7) pa_nil)) pa_nil)))) (pv 4) (fun _ _ => rfl))) (pe_slice (sl_listK (K := K) rfl) (pv 8) (po_some (pe_op op_add (pv 6) pe_int)) po_none)) (pg_sub (pv 3) (pv 5) set_list))) (pss_one (ps_if (pt_cmpR op_eq (pv 4) pe_int (nomark _)) (pss_cons (ps_set (i := 9) sc_Lword_spoilt.nd rfl (Or.inl rfl) (pe_fn F_Ldraw (hr.mono (by decide)) (by rfl) (pa_cons (pv 0) (pa_cons (pe_callB (call_len_seqK (K := K) rfl) (by rfl) Bt.b_len bt_len (pa_cons (pv 8) pa_nil)) pa_nil))))
      (pss_cons (ps_set (i := 10) sc_Lword_spoilt.nd rfl (Or.inl rfl) (pe_callTy (call_list_ofK (K := K) rfl) (by rfl) Bt.b_list bt_list (pa_cons (pv 8) pa_nil)))
      (pss_cons (ps_asg (pe_ix (ix_listK (K := K) rfl) (pv 8) (pv 9) (fun _ _ => rfl)) (pg_sub (pv 10) (pv 6) set_list))
      (pss_cons (ps_asg (pe_ix (ix_listK (K := K) rfl) (pv 8) (pv 6) (fun _ _ => rfl)) (pg_sub (pv 10) (pv 9) set_list))
      (pss_one (ps_asg (pv 10) (pg_sub (pv 3) (pv 5) set_list))))))) (pss_one (ps_set (i := 3) sc_Lword_spoilt.nd rfl (Or.inl rfl) (pe_op op_cat (pe_op op_cat (pe_slice (sl_listK (K := K) rfl) (pv 3) po_none (po_some (pv 5))) (pe_ix (ix_listK (K := K) rfl) (pe_lst (pa_cons (pe_lst (pa_cons (pv 8) (pa_cons (pv 8) pa_nil))) (pa_cons (pe_lst pa_nil) pa_nil))) (pe_op op_sub (pv 4) pe_int) (fun _ _ => rfl))) (pe_slice (sl_listK (K := K) rfl) (pv 3) (po_some (pe_op op_add (pv 5) pe_int)) po_none)))))))
      (pss_one (ps_ret (pe_bmK (K := K) rfl PySem.F.plainAttrs_str PySem.F.slot_str_join PySem.F.type_str_join (mt_joinK (K := K) rfl) pe_str (pa_cons (pe_comp rfl (N := ["words"]) (own := ["words"]) (caps := []) (CompScope.of (by kernel_rfl)) (pi_listK (K := K) rfl (pv 3)) (fun _ _ _ _ => (pg_name (i := 0) (show List.Nodup (["words"] : List Str) by decide +kernel) rfl (Or.inl rfl))) (fun _ _ _ _ => pts_nil) (fun _ _ _ _ => (pe_bmK (K := K) rfl PySem.F.plainAttrs_str PySem.F.slot_str_join PySem.F.type_str_join (mt_joinK (K := K) rfl) pe_str (pa_cons (pv 0) pa_nil)))) pa_nil))))))))))))), ?_⟩
    have zl := sizeLine_eq
    refine ⟨(by show 15 ≤ sizeLine; decide), fun o1 ho1 => ?_⟩
    have so1 := same_new (o := HO.lst (odd1.map V.str)) ho1
    refine ⟨_, rfl, _, 5000, rfl, rfl, by decide, by decide, _, 5000, rfl, rfl, by decide, by decide, _, _, rfl, rfl, by rw [cat_rep_len, zl]; decide, (by show 2 ≤ sizeLine; decide), fun o2 ho2 => ?_⟩
    have l1 : (cat (List.replicate 5000 (Str.ofString "1"))).length = 5000 := by rw [cat_rep_len]; rfl
    have l2 : (Str.ofString "0." ++ cat (List.replicate 5000 (Str.ofString "9"))).length = 5002 := by rw [Str.length_append, cat_rep_len]; rfl
    generalize cat (List.replicate 5000 (Str.ofString "1")) = w1 at l1 ho2 ⊢
    generalize Str.ofString "0." ++ cat (List.replicate 5000 (Str.ofString "9")) = w2 at l2 ho2 ⊢
    have so2 := same_new (o := HO.lst [V.str w1, V.str w2]) ho2
    refine ⟨o1, o2, odd1.map V.str, [V.str w1, V.str w2], rfl, rfl, so2 _ _ upd_same, upd_same, (by show 15 + 2 ≤ sizeLine; decide), fun od hod => ?_⟩
    have sod := same_new (o := HO.lst (odd1.map V.str ++ [V.str w1, V.str w2])) hod
    have S1 := (so1.trans so2).trans sod
    have eod : (upd (upd (upd H o1 (.lst (odd1.map V.str))) o2 (.lst [V.str w1, V.str w2])) od (.lst (odd1.map V.str ++ [V.str w1, V.str w2]))) od = some (.lst ((odd1 ++ [w1, w2]).map V.str)) := by rw [upd_same, List.map_append]; rfl
    have oddl : ∀ y ∈ odd1 ++ [w1, w2], y.length ≤ 5002 := fun y hy => by
      rcases List.mem_append.mp hy with hy | hy
      · exact Nat.le_trans ((by decide +kernel : ∀ y ∈ odd1, y.length ≤ 6) y hy) (by decide)
      · rcases List.mem_cons.mp hy with rfl | hy
        · omega
        · rw [List.mem_singleton.mp hy]; omega
    have oddn : (odd1 ++ [w1, w2]).length = 17 := rfl
    generalize odd1 ++ [w1, w2] = ods at eod oddl oddn
    generalize (upd (upd (upd H o1 (.lst (odd1.map V.str))) o2 (.lst [V.str w1, V.str w2])) od (.lst (odd1.map V.str ++ [V.str w1, V.str w2]))) = H1 at S1 eod ⊢
    clear so1 so2 sod hod ho1 ho2 l1 l2
    -- rows
    have tx := tot_split x (Str.ofString "\n") rfl
    have nx := split_ne x (Str.ofString "\n")
    refine ⟨_, rfl, rfl, _, _, rfl, rfl, rfl, by rw [zl]; omega, fun p0 hp0 => ?_⟩
    generalize Txt.split x (Str.ofString "\n") = ls at tx nx ⊢
    have sp0 := same_new (o := HO.lst (ls.map V.str)) hp0
    have tl := tot_len ls
    refine ⟨p0, rfl, ⟨_, SqL.of upd_same⟩, fun p hp => ?_⟩
    have hpH : H p = none := same_none (S1.trans sp0) hp
    have wl : ∀ w ∈ ls, w.length ≤ x.length := fun w hw => by have := tot_mem hw; omega
    refine comp_list (K := K) (xs := ls.map V.str) (fun i σ H2 => (∃ v, σ = [v]) ∧ ∃ qs, Rws H2 p qs ((ls.take i).map fun l => Txt.split l (Str.ofString " ")) ∧ Same (upd H1 p0 (.lst (ls.map V.str))) H2) ⟨⟨none, rfl⟩, [], ⟨upd_same, rfl, fun i q h => by simp at h⟩, same_new hp⟩ (fun i σ H2 _ ⟨_, _, _, s⟩ => s.sqL _ _ (SqL.of upd_same)) ?_ ?_
    · rintro i v σ H2 hi ⟨⟨v0, rfl⟩, qs, R, s⟩
      rw [List.getElem?_map] at hi
      cases ei : ls[i]? with
      | none => rw [ei] at hi; cases hi
      | some y =>
      rw [ei] at hi
      cases hi
      have yl := wl y (List.mem_of_getElem? ei)
      have il : i < ls.length := (List.getElem?_eq_some_iff.mp ei).1
      refine ⟨_, rfl, rfl, _, _, rfl, rfl, rfl, by rw [zl]; omega, fun q hq => ?_⟩
      have sq := same_new (o := HO.lst ((Txt.split y (Str.ofString " ")).map V.str)) hq
      have eq : (upd H2 q (.lst ((Txt.split y (Str.ofString " ")).map V.str))) q = some (.lst ((Txt.split y (Str.ofString " ")).map V.str)) := upd_same
      have npq : p ≠ q := ne_of_none R.e hq
      have R2 := R.same sq
      generalize upd H2 q (.lst ((Txt.split y (Str.ofString " ")).map V.str)) = H3 at sq eq R2 ⊢
      have ql : qs.length = i := by rw [R.l, List.length_map, List.length_take]; omega
      refine ⟨_, R2.e, by rw [List.length_map, zl]; omega, ⟨_, rfl⟩, qs ++ [q], ⟨by rw [upd_same, List.map_append]; rfl, by rw [List.length_append, ql, List.length_map, List.length_take]; simp; omega, fun j u h => ?_⟩, fun b o e => ?_⟩
      · by_cases z : j < qs.length
        · rw [List.getElem?_append_left z] at h
          obtain ⟨xs, a, b⟩ := R2.a j u h
          refine ⟨xs, ?_, ?_⟩
          · rw [← a, List.getElem?_map, List.getElem?_map, List.getElem?_take_of_lt (by omega), List.getElem?_take_of_lt (by omega)]
          · rw [upd_ne]
            · exact b
            · intro w
              rw [w, R2.e] at b
              injection b with b
              injection b with b
              match qs, xs, b with
              | [], [], _ => exact absurd z (Nat.not_lt_zero j)
              | _ :: _, _ :: _, b => injection b with b _; cases b
        · rw [List.getElem?_append_right (by omega)] at h
          have jq : j = i := by
            have := (List.getElem?_eq_some_iff.mp h).1
            simp at this
            omega
          subst jq
          rw [ql, Nat.sub_self] at h
          cases h
          exact ⟨_, by rw [List.getElem?_map, List.getElem?_take_of_lt (by omega), ei]; rfl, by rw [upd_ne npq.symm]; exact eq⟩
      · rw [upd_ne (ne_of_none e hp)]
        exact sq _ _ (s _ _ e)
    · rintro σ H2 ⟨_, qs, R, s⟩
      rw [List.length_map, List.take_length] at R
      have K2 : Kp r H H2 := Kp.of_same ((S1.trans sp0).trans s)
      have R2 := R0.keep ((S1.trans sp0).trans s)
      have eod2 := s _ _ (sp0 _ _ eod)
      have tR : tt (ls.map fun l => Txt.split l (Str.ofString " ")) ≤ 2 * (x.length + 1) := by
        have : ∀ l : List Str, tt (l.map fun l => Txt.split l (Str.ofString " ")) = tot l + l.length := fun l => by
          induction l with
          | nil => rfl
          | cons z l ih =>
            rw [List.map_cons, tt_cons, tot_cons, List.length_cons, tot_split z (Str.ofString " ") rfl, ih]
            omega
        rw [this]
        omega
      have nR : ∀ xs ∈ ls.map (fun l => Txt.split l (Str.ofString " ")), xs ≠ [] := fun xs h => by
        obtain ⟨l, _, rfl⟩ := List.mem_map.mp h
        exact split_ne l _
      have lR : 0 < (ls.map fun l => Txt.split l (Str.ofString " ")).length := by rw [List.length_map]; exact List.length_pos_iff.mpr nx
      generalize (ls.map fun l => Txt.split l (Str.ofString " ")) = xss at R tR nR lR
      clear s wl tl tx nx sp0 S1 eod
      have ql := R.l
      have tlx := tt_len xss
      refine ⟨_, rfl, r, 6, rfl, R2, by decide, by decide, fun kd H3 d0 d1 R3 k3 => ?_⟩
      have W3 := R.kp R2 k3
      have ne' : ∀ {o : Addr} {l : List Str} {H : Hp}, ReelOk H r → H o = some (.lst (l.map V.str)) → o ≠ r := fun {o l H} ok e z => by
        obtain ⟨f, t, er, _⟩ := ok
        rw [z, er] at e
        injection e with e
        injection e with e
        match l, e with
        | _ :: _, e => injection e with e _; cases e
      have eod3 := k3 _ _ eod2 (ne' R2 eod2)
      refine ⟨_, rfl, _, rfl, p, _, rfl, .inl (SqL.of W3.e), r, _, rfl, R3, by rw [List.length_map]; omega, by rw [List.length_map]; omega, fun row H4 r0 r1 R4 k4 => ?_⟩
      rw [List.length_map] at r1
      have W4 := W3.kp R3 k4
      have eod4 := k4 _ _ eod3 (ne' R3 eod3)
      obtain ⟨i, rfl⟩ := Int.eq_ofNat_of_zero_le r0
      have il : i < qs.length := by omega
      obtain ⟨qi, eqi⟩ : ∃ q, qs[i]? = some q := ⟨_, List.getElem?_eq_getElem il⟩
      obtain ⟨xi, exi, _⟩ := W4.a i qi eqi
      have xin := nR xi (List.mem_of_getElem? exi)
      have txi := tt_mem (List.mem_of_getElem? exi)
      have xil := tot_len xi
      have x0 : 0 < xi.length := List.length_pos_iff.mpr xin
      have eqi' : ∀ {H' : Hp}, Rws H' p qs xss → H' qi = some (.lst (xi.map V.str)) := fun {H'} W => by
        obtain ⟨xs, a, b⟩ := W.a i qi eqi
        rw [exi] at a
        cases a
        exact b
      have atq : atI (qs.map V.ref) ((i : Nat) : Int) = some (V.ref qi) := atI_nat (by rw [List.getElem?_map, eqi]; rfl)
      refine ⟨_, rfl, _, rfl, _, rfl, _, _, _, _, rfl, rfl, SqL.of W4.e, atq, qi, _, rfl, .inl (SqL.of (eqi' W4)), r, _, rfl, R4, by rw [List.length_map]; omega, by rw [List.length_map]; omega, fun at_ H5 a0 a1 R5 k5 => ?_⟩
      rw [List.length_map] at a1
      have W5 := W4.kp R4 k5
      have eod5 := k5 _ _ eod4 (ne' R4 eod4)
      obtain ⟨j, rfl⟩ := Int.eq_ofNat_of_zero_le a0
      have jl : j < xi.length := by omega
      obtain ⟨w, ew⟩ : ∃ w, xi[j]? = some w := ⟨_, List.getElem?_eq_getElem jl⟩
      refine ⟨_, rfl, _, rfl, _, rfl, od, _, rfl, .inl (SqL.of eod5), r, _, rfl, R5, by rw [List.length_map, oddn]; decide, by rw [List.length_map, oddn]; decide, fun z H6 z0 z1 R6 k6 => ?_⟩
      have W6 := W5.kp R5 k6
      have eod6 := k6 _ _ eod5 (ne' R5 eod5)
      obtain ⟨wd, ewd, wdl⟩ := at_le oddl z0 (by rw [List.length_map] at z1; exact z1)
      refine ⟨od, _, _, _, rfl, rfl, SqL.of eod6, ewd, ?_⟩
      have K6 : Kp r H H6 := Kp.trans (Kp.trans (Kp.trans (Kp.trans K2 k3) k4) k5) k6
      refine ⟨_, rfl, _, rfl, _, _, _, _, rfl, rfl, SqL.of W6.e, atq, ?_⟩
      have e6 := eqi' W6
      have atw : atI (xi.map V.str) ((j : Nat) : Int) = some (V.str w) := atI_nat (by rw [List.getElem?_map, ew]; rfl)
      clear R5 R4 R3 R2 k3 k4 k5 k6 K2 W5 W4 W3 eod2 eod3 eod4 eod5 eod6 R
      have tw := tot_at xi j w ew
      have npr : p ≠ r := fun z => by
        obtain ⟨f, t, er, _⟩ := R6
        have := W6.e
        rw [z, er] at this
        injection this with this
        injection this with this
        match qs, il, this with
        | _ :: _, _, e => injection e with e _; cases e
      dsimp only [gName]
      refine seq_cps (fun σ H' => ∃ (p' : Addr) (qs' : List Addr) (xss' : List (List Str)) (x4 x5 x6 x7 x8 x9 x10 : Option V), σ = [some (.ref r), some (.str x), some (.ref od), some (.ref p'), x4, x5, x6, x7, x8, x9, x10] ∧ Rws H' p' qs' xss' ∧ tt xss' ≤ 4 * (x.length + 1) + 5004 ∧ ReelOk H' r ∧ Kp r H H') (fun D' hD' rt' => ?_) ?_
      · refine ⟨_, rfl, _, _, rfl, rfl, _, rfl, ite2 (fun h3 => ?_) (fun h3 => ?_)⟩
        · have h3 := of_decide_eq_true h3
          -- words[:at]
          refine ⟨_, rfl, _, rfl, _, rfl, _, _, rfl, SqL.of e6, fun q1 hq1 => ?_⟩
          rw [show cutV (xi.map V.str) none (some ((j : Nat) : Int)) = (xi.take j).map V.str by rw [cut_take, List.map_take]]
          have s1 := same_new (o := HO.lst ((xi.take j).map V.str)) hq1
          have e1 : (upd H6 q1 (.lst ((xi.take j).map V.str))) q1 = some (.lst ((xi.take j).map V.str)) := upd_same
          have e61 := s1 _ _ e6
          generalize upd H6 q1 (.lst ((xi.take j).map V.str)) = G1 at s1 e1 e61 ⊢
          refine ⟨(by show 0 ≤ sizeLine; decide), fun a1 ha1 => ?_⟩
          have t1 := same_new (o := HO.lst []) ha1
          refine ⟨_, rfl, _, rfl, _, _, _, _, rfl, rfl, SqL.of (t1 _ _ e61), atw, (by show 1 ≤ sizeLine; decide), fun a2 ha2 => ?_⟩
          have t2 := same_new (o := HO.lst [V.str w]) ha2
          refine ⟨a2, 2, _, rfl, rfl, upd_same, by decide, by decide, (by show 1 * 2 ≤ sizeLine; decide), fun a3 ha3 => ?_⟩
          rw [show (List.replicate (Int.toNat 2) [V.str w]).flatten = [V.str w, V.str w] from rfl]
          have t3 := same_new (o := HO.lst ([V.str w, V.str w])) ha3
          refine ⟨_, rfl, (by show 1 ≤ sizeLine; decide), fun a4 ha4 => ?_⟩
          have t4 := same_new (o := HO.lst [V.str wd]) ha4
          refine ⟨(by show 3 ≤ sizeLine; decide), fun a5 ha5 => ?_⟩
          have t5 := same_new (o := HO.lst [V.ref a1, V.ref a3, V.ref a4]) ha5
          obtain ⟨lx, X, eX, hX, tX⟩ : ∃ (lx : Addr) (X : List Str), atI [V.ref a1, V.ref a3, V.ref a4] kd = some (.ref lx) ∧ (upd (upd (upd (upd (upd G1 a1 (.lst [])) a2 (.lst [V.str w])) a3 (.lst [V.str w, V.str w])) a4 (.lst [V.str wd])) a5 (.lst [V.ref a1, V.ref a3, V.ref a4])) lx = some (.lst (X.map V.str)) ∧ tot X ≤ 2 * (w.length + 1) + 5003 := by
            have : kd = 0 ∨ kd = 1 ∨ kd = 2 := by omega
            rcases this with rfl | rfl | rfl
            · exact ⟨a1, [], rfl, t5 _ _ (t4 _ _ (t3 _ _ (t2 _ _ upd_same))), by show 0 ≤ _; omega⟩
            · exact ⟨a3, [w, w], rfl, t5 _ _ (t4 _ _ upd_same), by rw [tot_cons, tot_cons, show tot [] = 0 from rfl]; omega⟩
            · exact ⟨a4, [wd], rfl, t5 _ _ upd_same, by rw [tot_cons, show tot [] = 0 from rfl]; omega⟩
          have T5 := (((t1.trans t2).trans t3).trans t4).trans t5
          refine ⟨_, rfl, _, _, _, _, rfl, rfl, SqL.of upd_same, eX, ?_⟩
          generalize (upd (upd (upd (upd (upd G1 a1 (.lst [])) a2 (.lst [V.str w])) a3 (.lst [V.str w, V.str w])) a4 (.lst [V.str wd])) a5 (.lst [V.ref a1, V.ref a3, V.ref a4])) = G2 at hX T5 ⊢
          clear t1 t2 t3 t4 t5 ha1 ha2 ha3 ha4 ha5 eX
          have xt := tot_len X
          refine ⟨q1, lx, _, _, rfl, rfl, T5 _ _ e1, hX, by rw [List.length_map, List.length_map, List.length_take, zl]; omega, fun q6 hq6 => ?_⟩
          have s6 := same_new (o := HO.lst ((xi.take j).map V.str ++ X.map V.str)) hq6
          have e6' : (upd G2 q6 (.lst ((xi.take j).map V.str ++ X.map V.str))) q6 = some (.lst ((xi.take j ++ X).map V.str)) := by rw [upd_same, List.map_append]
          generalize upd G2 q6 (.lst ((xi.take j).map V.str ++ X.map V.str)) = G3 at s6 e6' ⊢
          refine ⟨_, rfl, _, rfl, _, _, rfl, rfl, _, rfl, _, _, rfl, SqL.of (s6 _ _ (T5 _ _ e61)), fun q7 hq7 => ?_⟩
          rw [show cutV (xi.map V.str) (some (((j : Nat) : Int) + 1)) none = (xi.drop (j + 1)).map V.str by rw [show ((j : Nat) : Int) + 1 = ((j + 1 : Nat) : Int) by omega, cut_drop, List.map_drop]]
          have s7 := same_new (o := HO.lst ((xi.drop (j + 1)).map V.str)) hq7
          refine ⟨q6, q7, _, _, rfl, rfl, s7 _ _ e6', upd_same, by rw [List.length_map, List.length_map, List.length_append, List.length_take, List.length_drop, zl]; omega, fun q8 hq8 => ?_⟩
          have s8 := same_new (o := HO.lst ((xi.take j ++ X).map V.str ++ (xi.drop (j + 1)).map V.str)) hq8
          have e8 : (upd (upd G3 q7 (.lst ((xi.drop (j + 1)).map V.str))) q8 (.lst ((xi.take j ++ X).map V.str ++ (xi.drop (j + 1)).map V.str))) q8 = some (.lst ((xi.take j ++ X ++ xi.drop (j + 1)).map V.str)) := by rw [upd_same, List.map_append (l₁ := xi.take j ++ X)]
          have SS := (((s1.trans T5).trans s6).trans s7).trans s8
          have W8 := W6.same SS
          have np8 : p ≠ q8 := ne_of_none (((((s1.trans T5).trans s6).trans s7)) _ _ W6.e) hq8
          generalize (upd (upd G3 q7 (.lst ((xi.drop (j + 1)).map V.str))) q8 (.lst ((xi.take j ++ X).map V.str ++ (xi.drop (j + 1)).map V.str))) = G4 at SS W8 e8 ⊢
          refine ⟨_, rfl, _, rfl, p, _, _, i, rfl, rfl, W8.e, by unfold ixN; rw [List.length_map, if_pos (by omega), if_pos (by omega)]; rfl, ?_⟩
          have RX := W8.set e8 np8 il
          have kp : Kp p G4 (upd G4 p (.lst ((qs.map V.ref).set i (.ref q8)))) := Kp.set
          refine hD' _ _ ⟨p, _, _, _, _, _, _, _, _, _, rfl, RX, ?_, (R6.keep SS).kp kp npr.symm, Kp.new1 (Kp.smR K6 SS) hpH⟩
          have t2 := tt_set xss i xi (xi.take j ++ X ++ xi.drop (j + 1)) exi
          rw [tot_app, tot_app] at t2
          omega
        have h3 : ¬ kd < 3 := fun z => h3 (decide_eq_true z)
        refine ⟨_, rfl, rfl, _, rfl, ?_⟩
        by_cases e3 : kd = 3
        · refine ite2 (fun _ => ?_) (fun z => absurd (decide_eq_true (by rw [e3])) z)
          refine ⟨_, rfl, _, rfl, qi, _, rfl, .inl (SqL.of e6), r, _, rfl, R6, by rw [List.length_map]; omega, by rw [List.length_map]; omega, fun ot H7 b0 b1 R7 k7 => ?_⟩
          rw [List.length_map] at b1
          have W7 := W6.kp R6 k7
          have e7 := eqi' W7
          obtain ⟨m, rfl⟩ := Int.eq_ofNat_of_zero_le b0
          have ml : m < xi.length := by omega
          obtain ⟨wo, ewo⟩ : ∃ w, xi[m]? = some w := ⟨_, List.getElem?_eq_getElem ml⟩
          have ato : atI (xi.map V.str) ((m : Nat) : Int) = some (V.str wo) := atI_nat (by rw [List.getElem?_map, ewo]; rfl)
          refine ⟨_, rfl, qi, _, rfl, .inl (SqL.of e7), fun C hC => ?_⟩
          have sC := same_new (o := HO.lst (xi.map V.str)) hC
          have eC : (upd H7 C (.lst (xi.map V.str))) C = some (.lst (xi.map V.str)) := upd_same
          have nCp : p ≠ C := ne_of_none W7.e hC
          have nCq : qi ≠ C := ne_of_none e7 hC
          have nCr := R7.ne hC
          have K7 := Kp.smR (Kp.trans K6 k7) sC
          have hC0 : H C = none := Kp.new (Kp.trans K6 k7) hC (ReelOk.at R7)
          have W8 := W7.same sC
          have e8 := sC _ _ e7
          have R8 := R7.keep sC
          generalize upd H7 C (.lst (xi.map V.str)) = G1 at eC K7 W8 e8 R8 ⊢
          have ixj : ∀ l : List V, l.length = xi.length → ∀ n : Nat, n < xi.length → ixN l.length ((n : Nat) : Int) = some n := fun l hl n hn => by
            unfold ixN; rw [hl, if_pos (by omega), if_pos (by omega)]; rfl
          refine ⟨_, rfl, _, rfl, _, _, _, _, rfl, rfl, SqL.of e8, ato, _, rfl, _, rfl, C, _, _, j, rfl, rfl, eC, ixj _ (List.length_map ..) j jl, ?_⟩
          have kC1 : Kp C G1 (upd G1 C (.lst ((xi.map V.str).set j (.str wo)))) := Kp.set
          have e9 := kC1 _ _ e8 nCq
          refine ⟨_, rfl, _, rfl, _, _, _, _, rfl, rfl, SqL.of e9, atw, _, rfl, _, rfl, C, _, _, m, rfl, rfl, upd_same, ixj _ (by rw [List.length_set, List.length_map]) m ml, ?_⟩
          have kC : Kp C G1 (upd (upd G1 C (.lst ((xi.map V.str).set j (.str wo)))) C (.lst (((xi.map V.str).set j (.str wo)).set m (.str w)))) := by rw [upd_upd]; exact Kp.set
          have eC9 : (upd (upd G1 C (.lst ((xi.map V.str).set j (.str wo)))) C (.lst (((xi.map V.str).set j (.str wo)).set m (.str w)))) C = some (.lst (((xi.set j wo).set m w).map V.str)) := by rw [upd_same, List.map_set, List.map_set]
          have K9 : Kp r H (upd (upd G1 C (.lst ((xi.map V.str).set j (.str wo)))) C (.lst (((xi.map V.str).set j (.str wo)).set m (.str w)))) := Kp.new1 (Kp.new1 K7 hC0) hC0
          have R9 := R8.kp kC nCr.symm
          have nqC : ∀ (u : Addr) (xs : List Str), G1 u = some (.lst (xs.map V.str)) → u ∈ qs → u ≠ C := fun u xs _ hu z => by
            obtain ⟨n, hn⟩ := List.getElem?_of_mem hu
            obtain ⟨ys, _, b⟩ := W7.a n u hn
            rw [z, hC] at b
            cases b
          have W9 : Rws (upd (upd G1 C (.lst ((xi.map V.str).set j (.str wo)))) C (.lst (((xi.map V.str).set j (.str wo)).set m (.str w)))) p qs xss := ⟨kC _ _ W8.e nCp, W8.l, fun n u hn => by
            obtain ⟨ys, a, b⟩ := W8.a n u hn
            exact ⟨ys, a, kC _ _ b (nqC u ys b (List.mem_of_getElem? hn))⟩⟩
          generalize (upd (upd G1 C (.lst ((xi.map V.str).set j (.str wo)))) C (.lst (((xi.map V.str).set j (.str wo)).set m (.str w)))) = G2 at eC9 K9 R9 W9 ⊢
          refine ⟨_, rfl, _, rfl, _, rfl, p, _, _, i, rfl, rfl, W9.e, by unfold ixN; rw [List.length_map, if_pos (by omega), if_pos (by omega)]; rfl, ?_⟩
          have RX := W9.set eC9 nCp il
          have kp : Kp p G2 (upd G2 p (.lst ((qs.map V.ref).set i (.ref C)))) := Kp.set
          refine hD' _ _ ⟨p, _, _, _, _, _, _, _, _, _, rfl, RX, ?_, R9.kp kp npr.symm, Kp.new1 K9 hpH⟩
          have t2 := tt_set xss i xi ((xi.set j wo).set m w) exi
          have t3 := tot_set xi j w wo ew
          have e2 : (xi.set j wo)[m]? = some wo := by
            by_cases e : j = m
            · subst e; exact List.getElem?_set_self jl
            · rw [List.getElem?_set_ne e]; exact ewo
          have t4 := tot_set (xi.set j wo) m wo w e2
          omega
        · refine ite2 (fun z => absurd (by injection (of_decide_eq_true z)) e3) (fun _ => ?_)
          refine ⟨_, rfl, _, rfl, _, rfl, _, _, rfl, SqL.of W6.e, fun q1 hq1 => ?_⟩
          rw [show cutV (qs.map V.ref) none (some ((i : Nat) : Int)) = (qs.take i).map V.ref by rw [cut_take, List.map_take]]
          have s1 := same_new (o := HO.lst ((qs.take i).map V.ref)) hq1
          have e1 : (upd H6 q1 (.lst ((qs.take i).map V.ref))) q1 = some (.lst ((qs.take i).map V.ref)) := upd_same
          generalize upd H6 q1 (.lst ((qs.take i).map V.ref)) = G1 at s1 e1 ⊢
          refine ⟨_, rfl, _, rfl, (by show 2 ≤ sizeLine; decide), fun a1 ha1 => ?_⟩
          have t1 := same_new (o := HO.lst [V.ref qi, V.ref qi]) ha1
          refine ⟨(by show 0 ≤ sizeLine; decide), fun a2 ha2 => ?_⟩
          have t2 := same_new (o := HO.lst []) ha2
          refine ⟨(by show 2 ≤ sizeLine; decide), fun a3 ha3 => ?_⟩
          have t3 := same_new (o := HO.lst [V.ref a1, V.ref a2]) ha3
          obtain ⟨lx, X, Y, eX, hX, aX, tX⟩ : ∃ (lx : Addr) (X : List Addr) (Y : List (List Str)), atI [V.ref a1, V.ref a2] (kd - 4) = some (.ref lx) ∧ (upd (upd (upd G1 a1 (.lst [V.ref qi, V.ref qi])) a2 (.lst [])) a3 (.lst [V.ref a1, V.ref a2])) lx = some (.lst (X.map V.ref)) ∧ ARow H6 X Y ∧ tt Y ≤ 2 * (tot xi + 1) := by
            have : kd = 4 ∨ kd = 5 := by omega
            rcases this with rfl | rfl
            · refine ⟨a1, [qi, qi], [xi, xi], rfl, t3 _ _ (t2 _ _ upd_same), ⟨rfl, fun n u hn => ?_⟩, by rw [tt_cons, tt_cons, show tt [] = 0 from rfl]; omega⟩
              match n, hn with
              | 0, hn => cases hn; exact ⟨xi, rfl, e6⟩
              | 1, hn => cases hn; exact ⟨xi, rfl, e6⟩
              | n + 2, hn => simp at hn
            · exact ⟨a2, [], [], rfl, t3 _ _ upd_same, ⟨rfl, fun n u hn => by simp at hn⟩, by show 0 ≤ _; omega⟩
          refine ⟨_, rfl, _, _, rfl, rfl, _, _, _, _, rfl, rfl, SqL.of upd_same, eX, ?_⟩
          have T5 := (t1.trans t2).trans t3
          generalize (upd (upd (upd G1 a1 (.lst [V.ref qi, V.ref qi])) a2 (.lst [])) a3 (.lst [V.ref a1, V.ref a2])) = G2 at hX T5 ⊢
          clear t1 t2 t3 ha1 ha2 ha3 eX
          have xt := tt_len Y
          have xl2 := aX.1
          refine ⟨q1, lx, _, _, rfl, rfl, T5 _ _ e1, hX, by rw [List.length_map, List.length_map, List.length_take, zl]; omega, fun q6 hq6 => ?_⟩
          have s6 := same_new (o := HO.lst ((qs.take i).map V.ref ++ X.map V.ref)) hq6
          have e6' : (upd G2 q6 (.lst ((qs.take i).map V.ref ++ X.map V.ref))) q6 = some (.lst ((qs.take i ++ X).map V.ref)) := by rw [upd_same, List.map_append]
          generalize upd G2 q6 (.lst ((qs.take i).map V.ref ++ X.map V.ref)) = G3 at s6 e6' ⊢
          refine ⟨_, rfl, _, rfl, _, _, rfl, rfl, _, rfl, _, _, rfl, SqL.of (s6 _ _ (T5 _ _ (s1 _ _ W6.e))), fun q7 hq7 => ?_⟩
          rw [show cutV (qs.map V.ref) (some (((i : Nat) : Int) + 1)) none = (qs.drop (i + 1)).map V.ref by rw [show ((i : Nat) : Int) + 1 = ((i + 1 : Nat) : Int) by omega, cut_drop, List.map_drop]]
          have s7 := same_new (o := HO.lst ((qs.drop (i + 1)).map V.ref)) hq7
          refine ⟨q6, q7, _, _, rfl, rfl, s7 _ _ e6', upd_same, by rw [List.length_map, List.length_map, List.length_append, List.length_take, List.length_drop, zl]; omega, fun q8 hq8 => ?_⟩
          have s8 := same_new (o := HO.lst ((qs.take i ++ X).map V.ref ++ (qs.drop (i + 1)).map V.ref)) hq8
          have e8 : (upd (upd G3 q7 (.lst ((qs.drop (i + 1)).map V.ref))) q8 (.lst ((qs.take i ++ X).map V.ref ++ (qs.drop (i + 1)).map V.ref))) q8 = some (.lst ((qs.take i ++ X ++ qs.drop (i + 1)).map V.ref)) := by rw [upd_same, List.map_append (l₁ := qs.take i ++ X)]
          have SS := (((s1.trans T5).trans s6).trans s7).trans s8
          generalize (upd (upd G3 q7 (.lst ((qs.drop (i + 1)).map V.ref))) q8 (.lst ((qs.take i ++ X).map V.ref ++ (qs.drop (i + 1)).map V.ref))) = G4 at SS e8 ⊢
          have ar := (((W6.row.take i).app aX).app (W6.row.drop (i + 1))).same SS
          refine hD' _ _ ⟨q8, _, _, _, _, _, _, _, _, _, rfl, ⟨e8, ar.1, ar.2⟩, ?_, R6.keep SS, Kp.smR K6 SS⟩
          rw [tt_app, tt_app]
          have := tt_drop xss i xi exi
          omega
      · rintro σ H7 ⟨p', qs', xss', x4, x5, x6, x7, x8, x9, x10, rfl, R7, tt7, RR, KK⟩
        have tl7 := tt_len xss'
        have ql7 := R7.l
        refine ⟨rfl, _, rfl, p', rfl, ⟨_, SqL.of R7.e⟩, fun D hD => ?_⟩
        refine comp_val (K := K) (fun n => (xss'[n]?).map fun xs => V.str (Txt.join (Str.ofString " ") xs)) hD (SqL.of R7.e) (by rw [List.length_map]; omega) (fun n v H8 G F hn s8 kG kF => ?_) (fun H8 s8 e8 => ?_)
        · rw [List.getElem?_map] at hn
          cases eu : qs'[n]? with
          | none => rw [eu] at hn; cases hn
          | some u =>
          rw [eu] at hn
          cases hn
          obtain ⟨ys, ey, hy⟩ := R7.a n u eu
          have ty := tt_mem (List.mem_of_getElem? ey)
          have sy := sum_tot ys
          exact ⟨rfl, _, rfl, _, u, ys, rfl, rfl, SqL.of (s8 _ _ hy), by rw [len_sp]; omega, kF _ H8 (Same.refl _) (by rw [ey]; rfl)⟩
        rw [List.length_map, ql7, fm_some] at e8
        have tj : ∀ l : List (List Str), tot (l.map fun xs => Txt.join (Str.ofString " ") xs) ≤ tt l := fun l => by
          induction l with
          | nil => exact Nat.le_refl _
          | cons z l ih =>
            have := (tot_join (Str.ofString " ") rfl z).1
            rw [List.map_cons, tot_cons, tt_cons]
            omega
        have tj := tj xss'
        have e8 : H8 D = some (.lst ((xss'.map fun xs => Txt.join (Str.ofString " ") xs).map V.str)) := by rw [e8, List.map_map]; rfl
        generalize (xss'.map fun xs => Txt.join (Str.ofString " ") xs) = zs at tj e8
        have sz := sum_tot zs
        have fj := (tot_join (Str.ofString "\n") rfl zs).1
        exact ⟨_, D, zs, rfl, rfl, SqL.of e8, by rw [len_nl]; omega, k _ H8 (by omega) (RR.keep s8) (Kp.smR KK s8)⟩

theorem rec_len {cs : List Int} {ns : List Nt} (ok : RecOk cs ns) : (rT cs ns).length ≤ 2100 := by
  have h1 := row_len ok.1
  have h2 := notes_len ok
  have h3 := ok.2.1
  rw [← whole_text]
  have h4 := (tot_join (Str.ofString "\n") rfl ((Str.ofString "counts" ++ cat (cs.map fun c => Str.ofString " " ++ num c)) :: ns.map nT)).1
  have h5 := sum_tot ((Str.ofString "counts" ++ cat (cs.map fun c => Str.ofString " " ++ num c)) :: ns.map nT)
  rw [List.map_cons, List.sum_cons, List.length_cons, List.length_map] at h5
  exact Nat.le_trans h4 (by omega)
def spLaw (K : PySem.W.Frag) : Sp := fun vs H Q _ => ∃ (a : Addr) (ns : List Int), vs = [.ref a] ∧ SqL K H a (ns.map V.int) ∧ ns.length ≤ 63 ∧ ∀ H', Q (.bl true) H'
def lim : Nat → Nat
  | 0 => 2100
  | 1 => 13500
  | _ => 60000
theorem ok_law {f : Addr} {fd : FuncData} (F : Fun K "law" "law" s_law f fd) (F_Lreel : FnAt P w K mg base 1 "_law_reel" ["cell", "k"] (spReel K)) (F_Ldraw : FnAt P w K mg base 1 "_law_draw" ["reel", "many"] (spDraw K)) (F_Lrecord : FnAt P w K mg base 3 "_law_record" ["reel"] (spRecord K)) (F_Ltext : FnAt P w K mg base 1 "_law_text" ["record"] (spLtext K)) (F_Lfree_text : FnAt P w K mg base 2 "_law_free_text" ["reel"] (spTxt 1400 K)) (F_Lright : FnAt P w K mg base 6 "_law_right" ["text"] (spRight64 K)) (F_Lsign_spoilt : FnAt P w K mg base 2 "_law_sign_spoilt" ["reel", "text"] (spSignSp K)) (F_Lword_spoilt : FnAt P w K mg base 2 "_law_word_spoilt" ["reel", "text"] (spWordSp K)) (Bt : Blt mg) : FnOk P w K mg base CX0 7 f fd ["script"] (spLaw K) := by
  refine F.ok sc_law (fun vs H Q E h => ?_) (fun cdv A outer s H vs Q E hr h => ?_)
  · obtain ⟨a, ns, rfl, _⟩ := h
    rfl
  · obtain ⟨sa, sns, rfl, hS, hlen, k⟩ := h
    have hu64 := hr.units
    refine ⟨_, (pss_cons (ps_set (i := 1) sc_law.nd rfl (Or.inl rfl) (pe_slice (sl_listK (K := K) rfl) (pe_op op_cat (pe_slice (sl_listK (K := K) rfl) (pv 0) po_none (po_some pe_int)) (pe_lst (pa_cons pe_int pa_nil))) po_none (po_some (pe_callB (call_max2 rfl) (by rfl) Bt.b_max bt_max (pa_cons pe_int (pa_cons (pe_callB (call_min2 rfl) (by rfl) Bt.b_min bt_min (pa_cons pe_int (pa_cons (pe_callB (call_len_seqK (K := K) rfl) (by rfl) Bt.b_len bt_len (pa_cons (pv 0) pa_nil)) pa_nil))) pa_nil))))))
      (pss_cons (ps_for PassesOwn.never rfl (pi_enumK (K := K) rfl (by rfl) Bt.b_enumerate (pa_cons (pv 1) pa_nil)) (pg_tupK (K := K) (n := 2) rfl rfl (pgs_cons (pg_name (i := 2) sc_law.nd rfl (Or.inl rfl)) (pgs_cons (pg_name (i := 3) sc_law.nd rfl (Or.inl rfl)) pgs_nil)))
      (pss_cons (ps_set (i := 4) sc_law.nd rfl (Or.inr rfl) (pe_fn F_Lreel (hr.mono (by decide)) (by rfl) (pa_cons (pv 3) (pa_cons (pv 2) pa_nil))))
      (pss_cons (ps_set (i := 5) sc_law.nd rfl (Or.inl rfl) (pe_cmpR op_eq (pe_fn F_Ldraw (hr.mono (by decide)) (by rfl) (pa_cons (pv 4) (pa_cons pe_int pa_nil))) pe_int (nomark _)))
      (pss_cons (ps_setC (i := 6) rfl sc_law.nd rfl (Or.inl rfl) (N := ["j", "reel"]) (own := ["j"]) (caps := [4]) (CompScope.of (by kernel_rfl)) (pi_range1 (by rfl) Bt.b_range (pa_cons pe_int pa_nil)) (fun _ _ _ _ => (pg_name (i := 0) (show List.Nodup (["j", "reel"] : List Str) by decide +kernel) rfl (Or.inl rfl))) (fun _ _ _ _ => pts_nil) (fun _ _ _ _ => (pe_fn F_Ldraw (hr.mono (by decide)) (by rfl) (pa_cons (pv 1) (pa_cons pe_int pa_nil)))))
      (pss_cons (ps_set (i := 7) sc_law.nd rfl (Or.inl rfl) (pe_ix (ix_listK (K := K) rfl) (pe_lst (pa_cons (pe_fn F_Ltext (hr.mono (by decide)) (by rfl) (pa_cons (pe_fn F_Lrecord (hr.mono (by decide)) (by rfl) (pa_cons (pv 4) pa_nil)) pa_nil)) (pa_cons (pe_fn F_Lfree_text (hr.mono (by decide)) (by rfl) (pa_cons (pv 4) pa_nil)) pa_nil))) (pe_callTy call_int1 (by rfl) Bt.b_int bt_int (pa_cons (pv 5) pa_nil)) (fun _ _ => rfl)))
      (pss_cons (ps_if (pt_not (pt_val (pe_fn F_Lright (hr.mono (by decide)) (by rfl) (pa_cons (pv 7) pa_nil)))) (pss_one (ps_ret pe_bl)) pss_nil)
      (pss_one (ps_for PassesOwn.never rfl (pi_listK (K := K) rfl (pv 6)) (pg_name (i := 8) sc_law.nd rfl (Or.inl rfl))
      (pss_cons (ps_set (i := 9) sc_law.nd rfl (Or.inl rfl) (pv 7))
      (pss_cons (ps_for PassesOwn.never rfl (pi_range1 (by rfl) Bt.b_range (pa_cons (pv 8) pa_nil)) (pg_name (i := 10) sc_law.nd rfl (Or.inl rfl))
      (pss_one (ps_set (i := 9) sc_law.nd rfl (Or.inl rfl) (pe_ix (ix_listK (K := K) rfl) (pe_lst (pa_cons (pe_fn F_Lsign_spoilt (hr.mono (by decide)) (by rfl) (pa_cons (pv 4) (pa_cons (pv 9) pa_nil))) (pa_cons (pe_fn F_Lword_spoilt (hr.mono (by decide)) (by rfl) (pa_cons (pv 4) (pa_cons (pv 9) pa_nil))) pa_nil))) (pe_fn F_Ldraw (hr.mono (by decide)) (by rfl) (pa_cons (pv 4) (pa_cons pe_int pa_nil))) (fun _ _ => rfl)))))
      (pss_one (ps_if (pt_not (pt_val (pe_fn F_Lright (hr.mono (by decide)) (by rfl) (pa_cons (pv 9) pa_nil)))) (pss_one (ps_ret pe_bl)) pss_nil))))))))))))
      (pss_one (ps_ret (pe_and (pe_fn F_Lright (hr.mono (by decide)) (by rfl) (pa_cons pe_str pa_nil)) (pe_and (pe_fn F_Lright (hr.mono (by decide)) (by rfl) (pa_cons pe_str pa_nil)) (pe_one (pe_fn F_Lright (hr.mono (by decide)) (by rfl) (pa_cons pe_str pa_nil))))))))), ?_⟩
    -- script[:5] + [0]
    refine ⟨_, rfl, _, rfl, _, _, rfl, hS, fun p1 hp1 => ?_⟩
    have c1 : cutV (sns.map V.int) none (some 5) = (sns.take 5).map V.int := by rw [show (some (5 : Int)) = some ((5 : Nat) : Int) from rfl, cut_take, List.map_take]
    rw [c1]
    have s1 := same_new (o := HO.lst ((sns.take 5).map V.int)) hp1
    refine ⟨(by show 1 ≤ sizeLine; decide), fun p2 hp2 => ?_⟩
    have s2 := same_new (o := HO.lst [V.int 0]) hp2
    refine ⟨p1, p2, _, _, rfl, rfl, s2 _ _ upd_same, upd_same, by rw [List.length_map, List.length_take, sizeLine_eq]; simp; omega, fun p3 hp3 => ?_⟩
    have e3 : (sns.take 5).map V.int ++ [V.int 0] = (sns.take 5 ++ [0]).map V.int := by simp
    rw [e3]
    have s3 := same_new (o := HO.lst ((sns.take 5 ++ [0]).map V.int)) hp3
    have s13 := (s1.trans s2).trans s3
    refine ⟨_, rfl, sa, _, rfl, .inl (s13.seq hS), _, _, rfl, _, _, rfl, _, rfl, p3, _, rfl, SqL.of upd_same, fun p4 hp4 => ?_⟩
    have mx : ∃ m : Nat, (if (if ((sns.map V.int).length : Int) < 5 then ((sns.map V.int).length : Int) else 5) > 1 then (if ((sns.map V.int).length : Int) < 5 then ((sns.map V.int).length : Int) else 5) else 1) = (m : Int) := by
      refine ⟨(if (if ((sns.map V.int).length : Int) < 5 then ((sns.map V.int).length : Int) else 5) > 1 then (if ((sns.map V.int).length : Int) < 5 then ((sns.map V.int).length : Int) else 5) else 1).toNat, ?_⟩
      split <;> (try split) <;> omega
    obtain ⟨m, em⟩ := mx
    rw [em]
    have c4 : cutV ((sns.take 5 ++ [0]).map V.int) none (some (m : Int)) = ((sns.take 5 ++ [0]).take m).map V.int := by rw [cut_take, List.map_take]
    rw [c4]
    generalize hcells : (sns.take 5 ++ [0]).take m = cells
    have clen : cells.length ≤ 7 := by
      rw [← hcells, List.length_take, List.length_append, List.length_take]
      simp
      omega
    refine ⟨_, rfl, p4, _, rfl, SqL.of upd_same, ?_⟩
    refine for_enum (K := K) (a := p4) (xs := cells.map V.int) (fun i σ H2 => ∃ (x2 x3 x4 x5 x6 x7 x8 x9 x10 : Option V), σ = [some (.ref sa), some (.ref p4), x2, x3, x4, x5, x6, x7, x8, x9, x10] ∧ H2 p4 = some (.lst (cells.map V.int)))
      ⟨none, none, none, none, none, none, none, none, none, rfl, upd_same⟩ (fun i σ H2 _ ⟨_, _, _, _, _, _, _, _, _, _, e⟩ => SqL.of e) ?_ ?_
    · rintro i v σ H2 q hi ⟨x2, x3, x4, x5, x6, x7, x8, x9, x10, rfl, h4⟩ hq
      rw [List.getElem?_map] at hi
      cases ei : cells[i]? with
      | none => rw [ei] at hi; cases hi
      | some z =>
        rw [ei] at hi
        cases hi
        have il := (List.getElem?_eq_some_iff.mp ei).1
        have s5 := same_new (o := HO.tup [V.int i, V.int z]) hq
        refine ⟨q, _, rfl, SqT.of upd_same, rfl, _, _, rfl, _, _, rfl, rfl, ?_⟩
        have h5 := s5 _ _ h4
        refine ⟨_, rfl, _, rfl, z, (i : Int), rfl, by omega, by omega, fun r H6 hr6 R6 s6 => ?_⟩
        have h6 := s6 _ _ h5
        have n4r : p4 ≠ r := ne_of_none h5 hr6
        refine ⟨_, rfl, r, 3, rfl, R6, by decide, by decide, fun fr H7 f0 f1 R7 k7 => ⟨rfl, ?_⟩⟩
        have h7 := k7 _ _ h6 n4r
        dsimp only [gName]
        generalize decide (V.int fr = V.int 0) = fb
        refine ⟨4, rfl, by decide, by decide, fun D hD => ?_⟩
        have nDr := R7.ne hD
        have nD4 : p4 ≠ D := ne_of_none h7 hD
        refine comp_range (lo := 0) (n := 4) (fun j σ H8 => (∃ v, σ = [v, some (.ref r)]) ∧ ∃ ms : List Int, H8 D = some (.lst (ms.map V.int)) ∧ ms.length = j ∧ (∀ m ∈ ms, 0 ≤ m ∧ m < 3) ∧ ReelOk H8 r ∧ H8 p4 = some (.lst (cells.map V.int))) ⟨⟨none, rfl⟩, [], upd_same, rfl, fun m hm => by simp at hm, R7.keep (same_new hD), same_new hD _ _ h7⟩ ?_ ?_
        · rintro j σ H8 hj ⟨⟨v, rfl⟩, ms, e8, ml, mb, R8, h8⟩
          refine ⟨_, rfl, r, 3, rfl, R8, by decide, by decide, fun m H9 m0 m1 R9 k9 => ?_⟩
          have e9 := k9 _ _ e8 nDr
          have kD : Kp D H9 (upd H9 D (.lst (ms.map V.int ++ [V.int m]))) := Kp.set
          refine ⟨_, e9, by rw [List.length_map, sizeLine_eq]; omega, ⟨_, rfl⟩, ms ++ [m], by rw [upd_same, List.map_append]; rfl, by simp [ml], fun y hy => ?_, R9.kp kD nDr.symm, kD _ _ (k9 _ _ h8 n4r) nD4⟩
          rcases List.mem_append.mp hy with hy | hy
          · exact mb y hy
          · rw [List.mem_singleton.mp hy]; exact ⟨m0, m1⟩
        rintro σ H8 ⟨_, ms, e8, ml, mb, R8, h8⟩
        -- text
        refine ⟨_, rfl, r, rfl, R8, fun t c a cs ns H9 ht0 hc0 ha0 R ok sum R9 k9 => ?_⟩
        refine ⟨t, c, a, cs, ns, rfl, R, ok, fun H10 s10 => ?_⟩
        have rl := rec_len ok
        generalize rT cs ns = tx at rl ⊢
        refine ⟨_, rfl, r, rfl, R9.keep s10, fun fy H11 fl R11 k11 => ⟨(by show 2 ≤ sizeLine; decide), fun u hu => ?_⟩⟩
        have su := same_new (o := HO.lst [V.str tx, V.str fy]) hu
        have KK : Kp r H8 (upd H11 u (.lst [V.str tx, V.str fy])) := Kp.smR (Kp.trans (Kp.smR k9 s10) k11) su
        obtain ⟨y, ey, yl⟩ : ∃ y : Str, atI [V.str tx, V.str fy] (if fb = true then 1 else 0) = some (.str y) ∧ y.length ≤ 2100 := by
          cases fb
          · exact ⟨_, rfl, rl⟩
          · exact ⟨_, rfl, by omega⟩
        have h12 := KK _ _ h8 n4r
        have e12 := KK _ _ e8 nDr
        have R12 := R11.keep su
        have eu : (upd H11 u (.lst [V.str tx, V.str fy])) u = some (.lst [V.str tx, V.str fy]) := upd_same
        generalize upd H11 u (.lst [V.str tx, V.str fy]) = H12 at h12 e12 R12 eu ⊢
        refine ⟨_, rfl, .inr ⟨fb, rfl, _, _, _, _, rfl, rfl, SqL.of eu, ey, ?_⟩⟩
        refine ⟨_, rfl, y, rfl, by omega, fun H13 s13 => ⟨_, rfl, iteF ?_⟩⟩
        have R13 := R12.keep s13
        have h13 := s13 _ _ h12
        have e13 := s13 _ _ e12
        dsimp only [tNext]
        refine ⟨_, rfl, D, rfl, ⟨_, SqL.of e13⟩, ?_⟩
        refine for_list (K := K) (a := D) (xs := ms.map V.int) (fun n σ Hn => ∃ (x8 x9 x10 : Option V), σ = [some (.ref sa), some (.ref p4), some (.int (i : Nat)), some (.int z), some (.ref r), some (.bl fb), some (.ref D), some (.str y), x8, x9, x10] ∧ Hn D = some (.lst (ms.map V.int)) ∧ ReelOk Hn r ∧ Hn p4 = some (.lst (cells.map V.int)))
          ⟨_, _, _, rfl, e13, R13, h13⟩ (fun n σ Hn _ ⟨_, _, _, _, e, _⟩ => SqL.of e) ?_ ?_
        · rintro n v σ Hn hn ⟨x8, x9, x10, rfl, en, Rn, h4n⟩
          rw [List.getElem?_map] at hn
          cases em' : ms[n]? with
          | none => rw [em'] at hn; cases hn
          | some mm =>
          rw [em'] at hn
          cases hn
          have mmb := mb mm (List.mem_of_getElem? em')
          refine ⟨_, rfl, ?_⟩
          refine ⟨_, rfl, mm, rfl, by omega, by omega, ?_⟩
          refine for_range (lo := 0) (n := mm.toNat) (fun j σ Hj => ∃ (x10 : Option V) (yy : Str), σ = [some (.ref sa), some (.ref p4), some (.int (i : Nat)), some (.int z), some (.ref r), some (.bl fb), some (.ref D), some (.str y), some (.int mm), some (.str yy), x10] ∧ yy.length ≤ lim j ∧ Hj D = some (.lst (ms.map V.int)) ∧ ReelOk Hj r ∧ Hj p4 = some (.lst (cells.map V.int)))
            ⟨_, y, rfl, yl, en, Rn, h4n⟩ ?_ ?_
          · rintro j σ Hj hj ⟨x10, yy, rfl, yyl, ej, Rj, h4j⟩
            have j2 : j = 0 ∨ j = 1 := by omega
            have yl2 : yy.length ≤ 13500 ∧ 4 * yy.length + 5010 ≤ lim (j + 1) ∧ 2 * yy.length + 1 ≤ lim (j + 1) := by
              rcases j2 with rfl | rfl
              · have : yy.length ≤ 2100 := yyl
                show yy.length ≤ 13500 ∧ 4 * yy.length + 5010 ≤ 13500 ∧ 2 * yy.length + 1 ≤ 13500
                omega
              · have : yy.length ≤ 13500 := yyl
                show yy.length ≤ 13500 ∧ 4 * yy.length + 5010 ≤ 60000 ∧ 2 * yy.length + 1 ≤ 60000
                omega
            refine ⟨_, rfl, _, rfl, r, yy, rfl, Rj, by omega, fun y1 H14 l1 R14 k14 => ?_⟩
            refine ⟨_, rfl, _, rfl, r, yy, rfl, R14, by omega, fun y2 H15 l2 R15 k15 => ⟨(by show 2 ≤ sizeLine; decide), fun u hu => ?_⟩⟩
            have su := same_new (o := HO.lst [V.str y1, V.str y2]) hu
            have nur := R15.ne hu
            refine ⟨_, rfl, r, 2, rfl, R15.keep su, by decide, by decide, fun b H16 b0 b1 R16 k16 => ?_⟩
            have KK : Kp r Hj H16 := Kp.trans (Kp.smR (Kp.trans k14 k15) su) k16
            obtain ⟨y3, ey3, l3⟩ : ∃ y3 : Str, atI [V.str y1, V.str y2] b = some (.str y3) ∧ y3.length ≤ lim (j + 1) := by
              have : b = 0 ∨ b = 1 := by omega
              rcases this with rfl | rfl
              · exact ⟨_, rfl, by omega⟩
              · exact ⟨_, rfl, by omega⟩
            refine ⟨u, _, _, _, rfl, rfl, SqL.of (k16 _ _ upd_same nur), ey3, ?_⟩
            exact ⟨_, y3, rfl, l3, KK _ _ ej nDr, R16, KK _ _ h4j n4r⟩
          · rintro σ Hj ⟨x10, yy, rfl, yyl, ej, Rj, h4j⟩
            have l8 : yy.length ≤ 80000 := by
              have m3 : mm.toNat = 0 ∨ mm.toNat = 1 ∨ mm.toNat = 2 := by omega
              rcases m3 with e | e | e <;> rw [e] at yyl
              · have : yy.length ≤ 2100 := yyl; omega
              · have : yy.length ≤ 13500 := yyl; omega
              · have : yy.length ≤ 60000 := yyl; omega
            refine ⟨_, rfl, yy, rfl, l8, fun H17 s17 => ⟨_, rfl, iteF ?_⟩⟩
            exact ⟨_, _, _, rfl, s17 _ _ ej, Rj.keep s17, s17 _ _ h4j⟩
        · rintro σ Hn ⟨x8, x9, x10, rfl, en, Rn, h4n⟩
          exact ⟨_, _, _, _, _, _, _, _, _, rfl, h4n⟩
    · rintro σ H2 ⟨x2, x3, x4, x5, x6, x7, x8, x9, x10, rfl, h4⟩
      refine ⟨_, rfl, by decide, fun H3 s3 => ⟨_, rfl, iteT ?_⟩⟩
      refine ⟨_, rfl, by decide, fun H4 s4 => ⟨_, rfl, iteT ?_⟩⟩
      exact ⟨_, rfl, by decide, fun H5 s5 => k H5⟩

end
theorem len0 {us : List Value} (h : us.length = 0) : us = [] := List.eq_nil_of_length_eq_zero h
theorem lenS {us : List Value} {n : Nat} (h : us.length = n + 1) : ∃ a vs, us = a :: vs ∧ vs.length = n := by
  cases us with
  | nil => cases h
  | cons a t => exact ⟨a, t, rfl, Nat.succ.inj h⟩
theorem bi_number_of (kV doc pm : Value) (an : Option Addr) (cdv ct : Value) (us : List Value) (hl : us.length = (["word"] : List Str).length) : bindArgs (PySem.W.fnOf "number_of" "number_of" (defArgs s_number_of) (defBody s_number_of) (defScope s_number_of) .none kV doc pm an cdv ct) ⟨us, []⟩ = pure ((["word"] : List Str).zip us) := by obtain ⟨_, _, rfl, h1⟩ := lenS hl; cases len0 h1; rfl
theorem bi_is_whole (kV doc pm : Value) (an : Option Addr) (cdv ct : Value) (us : List Value) (hl : us.length = (["value"] : List Str).length) : bindArgs (PySem.W.fnOf "is_whole" "is_whole" (defArgs s_is_whole) (defBody s_is_whole) (defScope s_is_whole) .none kV doc pm an cdv ct) ⟨us, []⟩ = pure ((["value"] : List Str).zip us) := by obtain ⟨_, _, rfl, h1⟩ := lenS hl; cases len0 h1; rfl
theorem bi_is_below (kV doc pm : Value) (an : Option Addr) (cdv ct : Value) (us : List Value) (hl : us.length = (["value", "count"] : List Str).length) : bindArgs (PySem.W.fnOf "is_below" "is_below" (defArgs s_is_below) (defBody s_is_below) (defScope s_is_below) .none kV doc pm an cdv ct) ⟨us, []⟩ = pure ((["value", "count"] : List Str).zip us) := by obtain ⟨_, _, rfl, h1⟩ := lenS hl; obtain ⟨_, _, rfl, h2⟩ := lenS h1; cases len0 h2; rfl
theorem bi_is_note (kV doc pm : Value) (an : Option Addr) (cdv ct : Value) (us : List Value) (hl : us.length = (["value"] : List Str).length) : bindArgs (PySem.W.fnOf "is_note" "is_note" (defArgs s_is_note) (defBody s_is_note) (defScope s_is_note) .none kV doc pm an cdv ct) ⟨us, []⟩ = pure ((["value"] : List Str).zip us) := by obtain ⟨_, _, rfl, h1⟩ := lenS hl; cases len0 h1; rfl
theorem bi_is_between (kV doc pm : Value) (an : Option Addr) (cdv ct : Value) (us : List Value) (hl : us.length = (["counts", "note"] : List Str).length) : bindArgs (PySem.W.fnOf "is_between" "is_between" (defArgs s_is_between) (defBody s_is_between) (defScope s_is_between) .none kV doc pm an cdv ct) ⟨us, []⟩ = pure ((["counts", "note"] : List Str).zip us) := by obtain ⟨_, _, rfl, h1⟩ := lenS hl; obtain ⟨_, _, rfl, h2⟩ := lenS h1; cases len0 h2; rfl
theorem bi_check_notes (kV doc pm : Value) (an : Option Addr) (cdv ct : Value) (us : List Value) (hl : us.length = (["record"] : List Str).length) : bindArgs (PySem.W.fnOf "check_notes" "check_notes" (defArgs s_check_notes) (defBody s_check_notes) (defScope s_check_notes) .none kV doc pm an cdv ct) ⟨us, []⟩ = pure ((["record"] : List Str).zip us) := by obtain ⟨_, _, rfl, h1⟩ := lenS hl; cases len0 h1; rfl
theorem bi_read_number (kV doc pm : Value) (an : Option Addr) (cdv ct : Value) (us : List Value) (hl : us.length = (["word"] : List Str).length) : bindArgs (PySem.W.fnOf "read_number" "read_number" (defArgs s_read_number) (defBody s_read_number) (defScope s_read_number) .none kV doc pm an cdv ct) ⟨us, []⟩ = pure ((["word"] : List Str).zip us) := by obtain ⟨_, _, rfl, h1⟩ := lenS hl; cases len0 h1; rfl
theorem bi_read_touch (kV doc pm : Value) (an : Option Addr) (cdv ct : Value) (us : List Value) (hl : us.length = (["word"] : List Str).length) : bindArgs (PySem.W.fnOf "read_touch" "read_touch" (defArgs s_read_touch) (defBody s_read_touch) (defScope s_read_touch) .none kV doc pm an cdv ct) ⟨us, []⟩ = pure ((["word"] : List Str).zip us) := by obtain ⟨_, _, rfl, h1⟩ := lenS hl; cases len0 h1; rfl
theorem bi_read_note (kV doc pm : Value) (an : Option Addr) (cdv ct : Value) (us : List Value) (hl : us.length = (["line"] : List Str).length) : bindArgs (PySem.W.fnOf "read_note" "read_note" (defArgs s_read_note) (defBody s_read_note) (defScope s_read_note) .none kV doc pm an cdv ct) ⟨us, []⟩ = pure ((["line"] : List Str).zip us) := by obtain ⟨_, _, rfl, h1⟩ := lenS hl; cases len0 h1; rfl
theorem bi_read_counts (kV doc pm : Value) (an : Option Addr) (cdv ct : Value) (us : List Value) (hl : us.length = (["line"] : List Str).length) : bindArgs (PySem.W.fnOf "read_counts" "read_counts" (defArgs s_read_counts) (defBody s_read_counts) (defScope s_read_counts) .none kV doc pm an cdv ct) ⟨us, []⟩ = pure ((["line"] : List Str).zip us) := by obtain ⟨_, _, rfl, h1⟩ := lenS hl; cases len0 h1; rfl
theorem bi_read_record (kV doc pm : Value) (an : Option Addr) (cdv ct : Value) (us : List Value) (hl : us.length = (["text"] : List Str).length) : bindArgs (PySem.W.fnOf "read_record" "read_record" (defArgs s_read_record) (defBody s_read_record) (defScope s_read_record) .none kV doc pm an cdv ct) ⟨us, []⟩ = pure ((["text"] : List Str).zip us) := by obtain ⟨_, _, rfl, h1⟩ := lenS hl; cases len0 h1; rfl
theorem bi_Lreel (kV doc pm : Value) (an : Option Addr) (cdv ct : Value) (us : List Value) (hl : us.length = (["cell", "k"] : List Str).length) : bindArgs (PySem.W.fnOf "_law_reel" "_law_reel" (defArgs s_Lreel) (defBody s_Lreel) (defScope s_Lreel) .none kV doc pm an cdv ct) ⟨us, []⟩ = pure ((["cell", "k"] : List Str).zip us) := by obtain ⟨_, _, rfl, h1⟩ := lenS hl; obtain ⟨_, _, rfl, h2⟩ := lenS h1; cases len0 h2; rfl
theorem bi_Ldraw (kV doc pm : Value) (an : Option Addr) (cdv ct : Value) (us : List Value) (hl : us.length = (["reel", "many"] : List Str).length) : bindArgs (PySem.W.fnOf "_law_draw" "_law_draw" (defArgs s_Ldraw) (defBody s_Ldraw) (defScope s_Ldraw) .none kV doc pm an cdv ct) ⟨us, []⟩ = pure ((["reel", "many"] : List Str).zip us) := by obtain ⟨_, _, rfl, h1⟩ := lenS hl; obtain ⟨_, _, rfl, h2⟩ := lenS h1; cases len0 h2; rfl
theorem bi_Lcounts (kV doc pm : Value) (an : Option Addr) (cdv ct : Value) (us : List Value) (hl : us.length = (["reel"] : List Str).length) : bindArgs (PySem.W.fnOf "_law_counts" "_law_counts" (defArgs s_Lcounts) (defBody s_Lcounts) (defScope s_Lcounts) .none kV doc pm an cdv ct) ⟨us, []⟩ = pure ((["reel"] : List Str).zip us) := by obtain ⟨_, _, rfl, h1⟩ := lenS hl; cases len0 h1; rfl
theorem bi_Lsome_notes (kV doc pm : Value) (an : Option Addr) (cdv ct : Value) (us : List Value) (hl : us.length = (["reel", "counts", "many"] : List Str).length) : bindArgs (PySem.W.fnOf "_law_some_notes" "_law_some_notes" (defArgs s_Lsome_notes) (defBody s_Lsome_notes) (defScope s_Lsome_notes) .none kV doc pm an cdv ct) ⟨us, []⟩ = pure ((["reel", "counts", "many"] : List Str).zip us) := by obtain ⟨_, _, rfl, h1⟩ := lenS hl; obtain ⟨_, _, rfl, h2⟩ := lenS h1; obtain ⟨_, _, rfl, h3⟩ := lenS h2; cases len0 h3; rfl
theorem bi_Lrecord (kV doc pm : Value) (an : Option Addr) (cdv ct : Value) (us : List Value) (hl : us.length = (["reel"] : List Str).length) : bindArgs (PySem.W.fnOf "_law_record" "_law_record" (defArgs s_Lrecord) (defBody s_Lrecord) (defScope s_Lrecord) .none kV doc pm an cdv ct) ⟨us, []⟩ = pure ((["reel"] : List Str).zip us) := by obtain ⟨_, _, rfl, h1⟩ := lenS hl; cases len0 h1; rfl
theorem bi_Ltext (kV doc pm : Value) (an : Option Addr) (cdv ct : Value) (us : List Value) (hl : us.length = (["record"] : List Str).length) : bindArgs (PySem.W.fnOf "_law_text" "_law_text" (defArgs s_Ltext) (defBody s_Ltext) (defScope s_Ltext) .none kV doc pm an cdv ct) ⟨us, []⟩ = pure ((["record"] : List Str).zip us) := by obtain ⟨_, _, rfl, h1⟩ := lenS hl; cases len0 h1; rfl
theorem bi_Lflags (kV doc pm : Value) (an : Option Addr) (cdv ct : Value) (us : List Value) (hl : us.length = (["e"] : List Str).length) : bindArgs (PySem.W.fnOf "_law_flags" "_law_flags" (defArgs s_Lflags) (defBody s_Lflags) (defScope s_Lflags) .none kV doc pm an cdv ct) ⟨us, []⟩ = pure ((["e"] : List Str).zip us) := by obtain ⟨_, _, rfl, h1⟩ := lenS hl; cases len0 h1; rfl
theorem bi_Lfree_text (kV doc pm : Value) (an : Option Addr) (cdv ct : Value) (us : List Value) (hl : us.length = (["reel"] : List Str).length) : bindArgs (PySem.W.fnOf "_law_free_text" "_law_free_text" (defArgs s_Lfree_text) (defBody s_Lfree_text) (defScope s_Lfree_text) .none kV doc pm an cdv ct) ⟨us, []⟩ = pure ((["reel"] : List Str).zip us) := by obtain ⟨_, _, rfl, h1⟩ := lenS hl; cases len0 h1; rfl
theorem bi_Lsigns (kV doc pm : Value) (an : Option Addr) (cdv ct : Value) (us : List Value) (hl : us.length = ([] : List Str).length) : bindArgs (PySem.W.fnOf "_law_signs" "_law_signs" (defArgs s_Lsigns) (defBody s_Lsigns) (defScope s_Lsigns) .none kV doc pm an cdv ct) ⟨us, []⟩ = pure (([] : List Str).zip us) := by cases len0 hl; rfl
theorem bi_Lsign_spoilt (kV doc pm : Value) (an : Option Addr) (cdv ct : Value) (us : List Value) (hl : us.length = (["reel", "text"] : List Str).length) : bindArgs (PySem.W.fnOf "_law_sign_spoilt" "_law_sign_spoilt" (defArgs s_Lsign_spoilt) (defBody s_Lsign_spoilt) (defScope s_Lsign_spoilt) .none kV doc pm an cdv ct) ⟨us, []⟩ = pure ((["reel", "text"] : List Str).zip us) := by obtain ⟨_, _, rfl, h1⟩ := lenS hl; obtain ⟨_, _, rfl, h2⟩ := lenS h1; cases len0 h2; rfl
theorem bi_Lword_spoilt (kV doc pm : Value) (an : Option Addr) (cdv ct : Value) (us : List Value) (hl : us.length = (["reel", "text"] : List Str).length) : bindArgs (PySem.W.fnOf "_law_word_spoilt" "_law_word_spoilt" (defArgs s_Lword_spoilt) (defBody s_Lword_spoilt) (defScope s_Lword_spoilt) .none kV doc pm an cdv ct) ⟨us, []⟩ = pure ((["reel", "text"] : List Str).zip us) := by obtain ⟨_, _, rfl, h1⟩ := lenS hl; obtain ⟨_, _, rfl, h2⟩ := lenS h1; cases len0 h2; rfl
theorem bi_Lnumber (kV doc pm : Value) (an : Option Addr) (cdv ct : Value) (us : List Value) (hl : us.length = (["word"] : List Str).length) : bindArgs (PySem.W.fnOf "_law_number" "_law_number" (defArgs s_Lnumber) (defBody s_Lnumber) (defScope s_Lnumber) .none kV doc pm an cdv ct) ⟨us, []⟩ = pure ((["word"] : List Str).zip us) := by obtain ⟨_, _, rfl, h1⟩ := lenS hl; cases len0 h1; rfl
theorem bi_Ltouch (kV doc pm : Value) (an : Option Addr) (cdv ct : Value) (us : List Value) (hl : us.length = (["word"] : List Str).length) : bindArgs (PySem.W.fnOf "_law_touch" "_law_touch" (defArgs s_Ltouch) (defBody s_Ltouch) (defScope s_Ltouch) .none kV doc pm an cdv ct) ⟨us, []⟩ = pure ((["word"] : List Str).zip us) := by obtain ⟨_, _, rfl, h1⟩ := lenS hl; cases len0 h1; rfl
theorem bi_Ldue (kV doc pm : Value) (an : Option Addr) (cdv ct : Value) (us : List Value) (hl : us.length = (["text"] : List Str).length) : bindArgs (PySem.W.fnOf "_law_due" "_law_due" (defArgs s_Ldue) (defBody s_Ldue) (defScope s_Ldue) .none kV doc pm an cdv ct) ⟨us, []⟩ = pure ((["text"] : List Str).zip us) := by obtain ⟨_, _, rfl, h1⟩ := lenS hl; cases len0 h1; rfl
theorem bi_Lright (kV doc pm : Value) (an : Option Addr) (cdv ct : Value) (us : List Value) (hl : us.length = (["text"] : List Str).length) : bindArgs (PySem.W.fnOf "_law_right" "_law_right" (defArgs s_Lright) (defBody s_Lright) (defScope s_Lright) .none kV doc pm an cdv ct) ⟨us, []⟩ = pure ((["text"] : List Str).zip us) := by obtain ⟨_, _, rfl, h1⟩ := lenS hl; cases len0 h1; rfl
theorem all_mk {l : PySem.W.OpenLaw} {w : World} {K : PySem.W.Frag} {h : Heap} {mg : Str → Option Value} {fa f0 f1 f2 f3 f4 f5 f6 f7 f8 f9 f10 f11 f12 f13 f14 f15 f16 f17 f18 f19 f20 f21 f22 f23 f24 f25 f26 C_NoText C_NoNote C_NoteError C_RowError C_Held C_NoRow C_NoCell C_Full C_NoTarget C_NoHand C_Over C_NoPlace C_NoOrder C_NoCut C_TooMany C_NoForm C_NoneYet C_NoNumber : Addr} (X : K.In h) (G : h.Ns mainGlobals mg) (hfa : mg "law" = some (.ref fa))
    {od0 an0 od1 an1 od2 an2 od3 an3 od4 an4 od5 an5 od6 an6 od7 an7 od8 an8 od9 an9 od10 an10 od11 an11 od12 an12 od13 an13 od14 an14 od15 an15 od16 an16 od17 an17 od18 an18 od19 an19 od20 an20 od21 an21 od22 an22 od23 an23 od24 an24 od25 an25 od26 an26 : Option Addr} {sl0 sl1 sl2 sl3 sl4 sl5 sl6 sl7 sl8 sl9 sl10 sl11 sl12 sl13 sl14 sl15 sl16 sl17 sl18 sl19 sl20 sl21 sl22 sl23 sl24 sl25 sl26 : Array (Option Value)} {oc0 kV0 dc0 pm0 cd0 ct0 oc1 kV1 dc1 pm1 cd1 ct1 oc2 kV2 dc2 pm2 cd2 ct2 oc3 kV3 dc3 pm3 cd3 ct3 oc4 kV4 dc4 pm4 cd4 ct4 oc5 kV5 dc5 pm5 cd5 ct5 oc6 kV6 dc6 pm6 cd6 ct6 oc7 kV7 dc7 pm7 cd7 ct7 oc8 kV8 dc8 pm8 cd8 ct8 oc9 kV9 dc9 pm9 cd9 ct9 oc10 kV10 dc10 pm10 cd10 ct10 oc11 kV11 dc11 pm11 cd11 ct11 oc12 kV12 dc12 pm12 cd12 ct12 oc13 kV13 dc13 pm13 cd13 ct13 oc14 kV14 dc14 pm14 cd14 ct14 oc15 kV15 dc15 pm15 cd15 ct15 oc16 kV16 dc16 pm16 cd16 ct16 oc17 kV17 dc17 pm17 cd17 ct17 oc18 kV18 dc18 pm18 cd18 ct18 oc19 kV19 dc19 pm19 cd19 ct19 oc20 kV20 dc20 pm20 cd20 ct20 oc21 kV21 dc21 pm21 cd21 ct21 oc22 kV22 dc22 pm22 cd22 ct22 oc23 kV23 dc23 pm23 cd23 ct23 oc24 kV24 dc24 pm24 cd24 ct24 oc25 kV25 dc25 pm25 cd25 ct25 oc26 kV26 dc26 pm26 cd26 ct26 : Value}
    (a0 : PySem.W.nsIn K mainGlobals "number_of" = some (some (.ref f0))) (l0 : K.lookup f0 = some ⟨oc0, od0, .func (PySem.W.fnOf "number_of" "number_of" (defArgs s_number_of) (defBody s_number_of) (defScope s_number_of) .none kV0 dc0 pm0 an0 cd0 ct0), sl0⟩) (c0 : PySem.W.codeIn K cd0 "number_of" = true) (k0 : PySem.W.keepIn K (.ref f0) = true)
    (a1 : PySem.W.nsIn K mainGlobals "is_whole" = some (some (.ref f1))) (l1 : K.lookup f1 = some ⟨oc1, od1, .func (PySem.W.fnOf "is_whole" "is_whole" (defArgs s_is_whole) (defBody s_is_whole) (defScope s_is_whole) .none kV1 dc1 pm1 an1 cd1 ct1), sl1⟩) (c1 : PySem.W.codeIn K cd1 "is_whole" = true) (k1 : PySem.W.keepIn K (.ref f1) = true)
    (a2 : PySem.W.nsIn K mainGlobals "is_below" = some (some (.ref f2))) (l2 : K.lookup f2 = some ⟨oc2, od2, .func (PySem.W.fnOf "is_below" "is_below" (defArgs s_is_below) (defBody s_is_below) (defScope s_is_below) .none kV2 dc2 pm2 an2 cd2 ct2), sl2⟩) (c2 : PySem.W.codeIn K cd2 "is_below" = true) (k2 : PySem.W.keepIn K (.ref f2) = true)
    (a3 : PySem.W.nsIn K mainGlobals "is_note" = some (some (.ref f3))) (l3 : K.lookup f3 = some ⟨oc3, od3, .func (PySem.W.fnOf "is_note" "is_note" (defArgs s_is_note) (defBody s_is_note) (defScope s_is_note) .none kV3 dc3 pm3 an3 cd3 ct3), sl3⟩) (c3 : PySem.W.codeIn K cd3 "is_note" = true) (k3 : PySem.W.keepIn K (.ref f3) = true)
    (a4 : PySem.W.nsIn K mainGlobals "is_between" = some (some (.ref f4))) (l4 : K.lookup f4 = some ⟨oc4, od4, .func (PySem.W.fnOf "is_between" "is_between" (defArgs s_is_between) (defBody s_is_between) (defScope s_is_between) .none kV4 dc4 pm4 an4 cd4 ct4), sl4⟩) (c4 : PySem.W.codeIn K cd4 "is_between" = true) (k4 : PySem.W.keepIn K (.ref f4) = true)
    (a5 : PySem.W.nsIn K mainGlobals "check_notes" = some (some (.ref f5))) (l5 : K.lookup f5 = some ⟨oc5, od5, .func (PySem.W.fnOf "check_notes" "check_notes" (defArgs s_check_notes) (defBody s_check_notes) (defScope s_check_notes) .none kV5 dc5 pm5 an5 cd5 ct5), sl5⟩) (c5 : PySem.W.codeIn K cd5 "check_notes" = true) (k5 : PySem.W.keepIn K (.ref f5) = true)
    (a6 : PySem.W.nsIn K mainGlobals "read_number" = some (some (.ref f6))) (l6 : K.lookup f6 = some ⟨oc6, od6, .func (PySem.W.fnOf "read_number" "read_number" (defArgs s_read_number) (defBody s_read_number) (defScope s_read_number) .none kV6 dc6 pm6 an6 cd6 ct6), sl6⟩) (c6 : PySem.W.codeIn K cd6 "read_number" = true) (k6 : PySem.W.keepIn K (.ref f6) = true)
    (a7 : PySem.W.nsIn K mainGlobals "read_touch" = some (some (.ref f7))) (l7 : K.lookup f7 = some ⟨oc7, od7, .func (PySem.W.fnOf "read_touch" "read_touch" (defArgs s_read_touch) (defBody s_read_touch) (defScope s_read_touch) .none kV7 dc7 pm7 an7 cd7 ct7), sl7⟩) (c7 : PySem.W.codeIn K cd7 "read_touch" = true) (k7 : PySem.W.keepIn K (.ref f7) = true)
    (a8 : PySem.W.nsIn K mainGlobals "read_note" = some (some (.ref f8))) (l8 : K.lookup f8 = some ⟨oc8, od8, .func (PySem.W.fnOf "read_note" "read_note" (defArgs s_read_note) (defBody s_read_note) (defScope s_read_note) .none kV8 dc8 pm8 an8 cd8 ct8), sl8⟩) (c8 : PySem.W.codeIn K cd8 "read_note" = true) (k8 : PySem.W.keepIn K (.ref f8) = true)
    (a9 : PySem.W.nsIn K mainGlobals "read_counts" = some (some (.ref f9))) (l9 : K.lookup f9 = some ⟨oc9, od9, .func (PySem.W.fnOf "read_counts" "read_counts" (defArgs s_read_counts) (defBody s_read_counts) (defScope s_read_counts) .none kV9 dc9 pm9 an9 cd9 ct9), sl9⟩) (c9 : PySem.W.codeIn K cd9 "read_counts" = true) (k9 : PySem.W.keepIn K (.ref f9) = true)
    (a10 : PySem.W.nsIn K mainGlobals "read_record" = some (some (.ref f10))) (l10 : K.lookup f10 = some ⟨oc10, od10, .func (PySem.W.fnOf "read_record" "read_record" (defArgs s_read_record) (defBody s_read_record) (defScope s_read_record) .none kV10 dc10 pm10 an10 cd10 ct10), sl10⟩) (c10 : PySem.W.codeIn K cd10 "read_record" = true) (k10 : PySem.W.keepIn K (.ref f10) = true)
    (a11 : PySem.W.nsIn K mainGlobals "_law_reel" = some (some (.ref f11))) (l11 : K.lookup f11 = some ⟨oc11, od11, .func (PySem.W.fnOf "_law_reel" "_law_reel" (defArgs s_Lreel) (defBody s_Lreel) (defScope s_Lreel) .none kV11 dc11 pm11 an11 cd11 ct11), sl11⟩) (c11 : PySem.W.codeIn K cd11 "_law_reel" = true) (k11 : PySem.W.keepIn K (.ref f11) = true)
    (a12 : PySem.W.nsIn K mainGlobals "_law_draw" = some (some (.ref f12))) (l12 : K.lookup f12 = some ⟨oc12, od12, .func (PySem.W.fnOf "_law_draw" "_law_draw" (defArgs s_Ldraw) (defBody s_Ldraw) (defScope s_Ldraw) .none kV12 dc12 pm12 an12 cd12 ct12), sl12⟩) (c12 : PySem.W.codeIn K cd12 "_law_draw" = true) (k12 : PySem.W.keepIn K (.ref f12) = true)
    (a13 : PySem.W.nsIn K mainGlobals "_law_counts" = some (some (.ref f13))) (l13 : K.lookup f13 = some ⟨oc13, od13, .func (PySem.W.fnOf "_law_counts" "_law_counts" (defArgs s_Lcounts) (defBody s_Lcounts) (defScope s_Lcounts) .none kV13 dc13 pm13 an13 cd13 ct13), sl13⟩) (c13 : PySem.W.codeIn K cd13 "_law_counts" = true) (k13 : PySem.W.keepIn K (.ref f13) = true)
    (a14 : PySem.W.nsIn K mainGlobals "_law_some_notes" = some (some (.ref f14))) (l14 : K.lookup f14 = some ⟨oc14, od14, .func (PySem.W.fnOf "_law_some_notes" "_law_some_notes" (defArgs s_Lsome_notes) (defBody s_Lsome_notes) (defScope s_Lsome_notes) .none kV14 dc14 pm14 an14 cd14 ct14), sl14⟩) (c14 : PySem.W.codeIn K cd14 "_law_some_notes" = true) (k14 : PySem.W.keepIn K (.ref f14) = true)
    (a15 : PySem.W.nsIn K mainGlobals "_law_record" = some (some (.ref f15))) (l15 : K.lookup f15 = some ⟨oc15, od15, .func (PySem.W.fnOf "_law_record" "_law_record" (defArgs s_Lrecord) (defBody s_Lrecord) (defScope s_Lrecord) .none kV15 dc15 pm15 an15 cd15 ct15), sl15⟩) (c15 : PySem.W.codeIn K cd15 "_law_record" = true) (k15 : PySem.W.keepIn K (.ref f15) = true)
    (a16 : PySem.W.nsIn K mainGlobals "_law_text" = some (some (.ref f16))) (l16 : K.lookup f16 = some ⟨oc16, od16, .func (PySem.W.fnOf "_law_text" "_law_text" (defArgs s_Ltext) (defBody s_Ltext) (defScope s_Ltext) .none kV16 dc16 pm16 an16 cd16 ct16), sl16⟩) (c16 : PySem.W.codeIn K cd16 "_law_text" = true) (k16 : PySem.W.keepIn K (.ref f16) = true)
    (a17 : PySem.W.nsIn K mainGlobals "_law_flags" = some (some (.ref f17))) (l17 : K.lookup f17 = some ⟨oc17, od17, .func (PySem.W.fnOf "_law_flags" "_law_flags" (defArgs s_Lflags) (defBody s_Lflags) (defScope s_Lflags) .none kV17 dc17 pm17 an17 cd17 ct17), sl17⟩) (c17 : PySem.W.codeIn K cd17 "_law_flags" = true) (k17 : PySem.W.keepIn K (.ref f17) = true)
    (a18 : PySem.W.nsIn K mainGlobals "_law_free_text" = some (some (.ref f18))) (l18 : K.lookup f18 = some ⟨oc18, od18, .func (PySem.W.fnOf "_law_free_text" "_law_free_text" (defArgs s_Lfree_text) (defBody s_Lfree_text) (defScope s_Lfree_text) .none kV18 dc18 pm18 an18 cd18 ct18), sl18⟩) (c18 : PySem.W.codeIn K cd18 "_law_free_text" = true) (k18 : PySem.W.keepIn K (.ref f18) = true)
    (a19 : PySem.W.nsIn K mainGlobals "_law_signs" = some (some (.ref f19))) (l19 : K.lookup f19 = some ⟨oc19, od19, .func (PySem.W.fnOf "_law_signs" "_law_signs" (defArgs s_Lsigns) (defBody s_Lsigns) (defScope s_Lsigns) .none kV19 dc19 pm19 an19 cd19 ct19), sl19⟩) (c19 : PySem.W.codeIn K cd19 "_law_signs" = true) (k19 : PySem.W.keepIn K (.ref f19) = true)
    (a20 : PySem.W.nsIn K mainGlobals "_law_sign_spoilt" = some (some (.ref f20))) (l20 : K.lookup f20 = some ⟨oc20, od20, .func (PySem.W.fnOf "_law_sign_spoilt" "_law_sign_spoilt" (defArgs s_Lsign_spoilt) (defBody s_Lsign_spoilt) (defScope s_Lsign_spoilt) .none kV20 dc20 pm20 an20 cd20 ct20), sl20⟩) (c20 : PySem.W.codeIn K cd20 "_law_sign_spoilt" = true) (k20 : PySem.W.keepIn K (.ref f20) = true)
    (a21 : PySem.W.nsIn K mainGlobals "_law_word_spoilt" = some (some (.ref f21))) (l21 : K.lookup f21 = some ⟨oc21, od21, .func (PySem.W.fnOf "_law_word_spoilt" "_law_word_spoilt" (defArgs s_Lword_spoilt) (defBody s_Lword_spoilt) (defScope s_Lword_spoilt) .none kV21 dc21 pm21 an21 cd21 ct21), sl21⟩) (c21 : PySem.W.codeIn K cd21 "_law_word_spoilt" = true) (k21 : PySem.W.keepIn K (.ref f21) = true)
    (a22 : PySem.W.nsIn K mainGlobals "_law_number" = some (some (.ref f22))) (l22 : K.lookup f22 = some ⟨oc22, od22, .func (PySem.W.fnOf "_law_number" "_law_number" (defArgs s_Lnumber) (defBody s_Lnumber) (defScope s_Lnumber) .none kV22 dc22 pm22 an22 cd22 ct22), sl22⟩) (c22 : PySem.W.codeIn K cd22 "_law_number" = true) (k22 : PySem.W.keepIn K (.ref f22) = true)
    (a23 : PySem.W.nsIn K mainGlobals "_law_touch" = some (some (.ref f23))) (l23 : K.lookup f23 = some ⟨oc23, od23, .func (PySem.W.fnOf "_law_touch" "_law_touch" (defArgs s_Ltouch) (defBody s_Ltouch) (defScope s_Ltouch) .none kV23 dc23 pm23 an23 cd23 ct23), sl23⟩) (c23 : PySem.W.codeIn K cd23 "_law_touch" = true) (k23 : PySem.W.keepIn K (.ref f23) = true)
    (a24 : PySem.W.nsIn K mainGlobals "_law_due" = some (some (.ref f24))) (l24 : K.lookup f24 = some ⟨oc24, od24, .func (PySem.W.fnOf "_law_due" "_law_due" (defArgs s_Ldue) (defBody s_Ldue) (defScope s_Ldue) .none kV24 dc24 pm24 an24 cd24 ct24), sl24⟩) (c24 : PySem.W.codeIn K cd24 "_law_due" = true) (k24 : PySem.W.keepIn K (.ref f24) = true)
    (a25 : PySem.W.nsIn K mainGlobals "_law_right" = some (some (.ref f25))) (l25 : K.lookup f25 = some ⟨oc25, od25, .func (PySem.W.fnOf "_law_right" "_law_right" (defArgs s_Lright) (defBody s_Lright) (defScope s_Lright) .none kV25 dc25 pm25 an25 cd25 ct25), sl25⟩) (c25 : PySem.W.codeIn K cd25 "_law_right" = true) (k25 : PySem.W.keepIn K (.ref f25) = true)
    (a26 : PySem.W.nsIn K mainGlobals "law" = some (some (.ref f26))) (l26 : K.lookup f26 = some ⟨oc26, od26, .func (PySem.W.fnOf "law" "law" (defArgs s_law) (defBody s_law) (defScope s_law) .none kV26 dc26 pm26 an26 cd26 ct26), sl26⟩) (c26 : PySem.W.codeIn K cd26 "law" = true) (k26 : PySem.W.keepIn K (.ref f26) = true)
    (xa_NoText : PySem.W.nsIn K mainGlobals "NoText" = some (some (.ref C_NoText)))
    (xcl_NoText : (PySem.W.clsIn K C_NoText).isSome = true)
    (xty_NoText : PySem.W.typeIn K (.ref C_NoText) = some (.type "type"))
    (xbs_NoText : PySem.W.subIn K (.ref C_NoText) (.type "BaseException") = some true)
    (xa_NoNote : PySem.W.nsIn K mainGlobals "NoNote" = some (some (.ref C_NoNote)))
    (xcl_NoNote : (PySem.W.clsIn K C_NoNote).isSome = true)
    (xty_NoNote : PySem.W.typeIn K (.ref C_NoNote) = some (.type "type"))
    (xbs_NoNote : PySem.W.subIn K (.ref C_NoNote) (.type "BaseException") = some true)
    (xa_NoteError : PySem.W.nsIn K mainGlobals "NoteError" = some (some (.ref C_NoteError)))
    (xcl_NoteError : (PySem.W.clsIn K C_NoteError).isSome = true)
    (xty_NoteError : PySem.W.typeIn K (.ref C_NoteError) = some (.type "type"))
    (xbs_NoteError : PySem.W.subIn K (.ref C_NoteError) (.type "BaseException") = some true)
    (xa_RowError : PySem.W.nsIn K mainGlobals "RowError" = some (some (.ref C_RowError)))
    (xcl_RowError : (PySem.W.clsIn K C_RowError).isSome = true)
    (xty_RowError : PySem.W.typeIn K (.ref C_RowError) = some (.type "type"))
    (xbs_RowError : PySem.W.subIn K (.ref C_RowError) (.type "BaseException") = some true)
    (xa_Held : PySem.W.nsIn K mainGlobals "Held" = some (some (.ref C_Held)))
    (xcl_Held : (PySem.W.clsIn K C_Held).isSome = true)
    (xty_Held : PySem.W.typeIn K (.ref C_Held) = some (.type "type"))
    (xbs_Held : PySem.W.subIn K (.ref C_Held) (.type "BaseException") = some true)
    (xa_NoRow : PySem.W.nsIn K mainGlobals "NoRow" = some (some (.ref C_NoRow)))
    (xcl_NoRow : (PySem.W.clsIn K C_NoRow).isSome = true)
    (xty_NoRow : PySem.W.typeIn K (.ref C_NoRow) = some (.type "type"))
    (xbs_NoRow : PySem.W.subIn K (.ref C_NoRow) (.type "BaseException") = some true)
    (xa_NoCell : PySem.W.nsIn K mainGlobals "NoCell" = some (some (.ref C_NoCell)))
    (xcl_NoCell : (PySem.W.clsIn K C_NoCell).isSome = true)
    (xty_NoCell : PySem.W.typeIn K (.ref C_NoCell) = some (.type "type"))
    (xbs_NoCell : PySem.W.subIn K (.ref C_NoCell) (.type "BaseException") = some true)
    (xa_Full : PySem.W.nsIn K mainGlobals "Full" = some (some (.ref C_Full)))
    (xcl_Full : (PySem.W.clsIn K C_Full).isSome = true)
    (xty_Full : PySem.W.typeIn K (.ref C_Full) = some (.type "type"))
    (xbs_Full : PySem.W.subIn K (.ref C_Full) (.type "BaseException") = some true)
    (xa_NoTarget : PySem.W.nsIn K mainGlobals "NoTarget" = some (some (.ref C_NoTarget)))
    (xcl_NoTarget : (PySem.W.clsIn K C_NoTarget).isSome = true)
    (xty_NoTarget : PySem.W.typeIn K (.ref C_NoTarget) = some (.type "type"))
    (xbs_NoTarget : PySem.W.subIn K (.ref C_NoTarget) (.type "BaseException") = some true)
    (xa_NoHand : PySem.W.nsIn K mainGlobals "NoHand" = some (some (.ref C_NoHand)))
    (xcl_NoHand : (PySem.W.clsIn K C_NoHand).isSome = true)
    (xty_NoHand : PySem.W.typeIn K (.ref C_NoHand) = some (.type "type"))
    (xbs_NoHand : PySem.W.subIn K (.ref C_NoHand) (.type "BaseException") = some true)
    (xa_Over : PySem.W.nsIn K mainGlobals "Over" = some (some (.ref C_Over)))
    (xcl_Over : (PySem.W.clsIn K C_Over).isSome = true)
    (xty_Over : PySem.W.typeIn K (.ref C_Over) = some (.type "type"))
    (xbs_Over : PySem.W.subIn K (.ref C_Over) (.type "BaseException") = some true)
    (xa_NoPlace : PySem.W.nsIn K mainGlobals "NoPlace" = some (some (.ref C_NoPlace)))
    (xcl_NoPlace : (PySem.W.clsIn K C_NoPlace).isSome = true)
    (xty_NoPlace : PySem.W.typeIn K (.ref C_NoPlace) = some (.type "type"))
    (xbs_NoPlace : PySem.W.subIn K (.ref C_NoPlace) (.type "BaseException") = some true)
    (xa_NoOrder : PySem.W.nsIn K mainGlobals "NoOrder" = some (some (.ref C_NoOrder)))
    (xcl_NoOrder : (PySem.W.clsIn K C_NoOrder).isSome = true)
    (xty_NoOrder : PySem.W.typeIn K (.ref C_NoOrder) = some (.type "type"))
    (xbs_NoOrder : PySem.W.subIn K (.ref C_NoOrder) (.type "BaseException") = some true)
    (xa_NoCut : PySem.W.nsIn K mainGlobals "NoCut" = some (some (.ref C_NoCut)))
    (xcl_NoCut : (PySem.W.clsIn K C_NoCut).isSome = true)
    (xty_NoCut : PySem.W.typeIn K (.ref C_NoCut) = some (.type "type"))
    (xbs_NoCut : PySem.W.subIn K (.ref C_NoCut) (.type "BaseException") = some true)
    (xa_TooMany : PySem.W.nsIn K mainGlobals "TooMany" = some (some (.ref C_TooMany)))
    (xcl_TooMany : (PySem.W.clsIn K C_TooMany).isSome = true)
    (xty_TooMany : PySem.W.typeIn K (.ref C_TooMany) = some (.type "type"))
    (xbs_TooMany : PySem.W.subIn K (.ref C_TooMany) (.type "BaseException") = some true)
    (xa_NoForm : PySem.W.nsIn K mainGlobals "NoForm" = some (some (.ref C_NoForm)))
    (xcl_NoForm : (PySem.W.clsIn K C_NoForm).isSome = true)
    (xty_NoForm : PySem.W.typeIn K (.ref C_NoForm) = some (.type "type"))
    (xbs_NoForm : PySem.W.subIn K (.ref C_NoForm) (.type "BaseException") = some true)
    (xa_NoneYet : PySem.W.nsIn K mainGlobals "NoneYet" = some (some (.ref C_NoneYet)))
    (xcl_NoneYet : (PySem.W.clsIn K C_NoneYet).isSome = true)
    (xty_NoneYet : PySem.W.typeIn K (.ref C_NoneYet) = some (.type "type"))
    (xbs_NoneYet : PySem.W.subIn K (.ref C_NoneYet) (.type "BaseException") = some true)
    (xa_NoNumber : PySem.W.nsIn K mainGlobals "NoNumber" = some (some (.ref C_NoNumber)))
    (xcl_NoNumber : (PySem.W.clsIn K C_NoNumber).isSome = true)
    (xty_NoNumber : PySem.W.typeIn K (.ref C_NoNumber) = some (.type "type"))
    (xbs_NoNumber : PySem.W.subIn K (.ref C_NoNumber) (.type "BaseException") = some true)
    (xne_NoNote_NoText : (Value.ref C_NoNote == Value.ref C_NoText) = false)
    (xsb_NoNote_NoText : PySem.W.subIn K (.ref C_NoNote) (.ref C_NoText) = some false)
    (xne_NoText_NoNote : (Value.ref C_NoText == Value.ref C_NoNote) = false)
    (xsb_NoText_NoNote : PySem.W.subIn K (.ref C_NoText) (.ref C_NoNote) = some false)
    (xne_NoText_NoteError : (Value.ref C_NoText == Value.ref C_NoteError) = false)
    (xsb_NoText_NoteError : PySem.W.subIn K (.ref C_NoText) (.ref C_NoteError) = some true)
    (xne_NoNote_NoteError : (Value.ref C_NoNote == Value.ref C_NoteError) = false)
    (xsb_NoNote_NoteError : PySem.W.subIn K (.ref C_NoNote) (.ref C_NoteError) = some true)
    (xne_NoText_RowError : (Value.ref C_NoText == Value.ref C_RowError) = false)
    (xsb_NoText_RowError : PySem.W.subIn K (.ref C_NoText) (.ref C_RowError) = some false)
    (xne_NoNote_RowError : (Value.ref C_NoNote == Value.ref C_RowError) = false)
    (xsb_NoNote_RowError : PySem.W.subIn K (.ref C_NoNote) (.ref C_RowError) = some false)
    (xne_NoText_Held : (Value.ref C_NoText == Value.ref C_Held) = false)
    (xsb_NoText_Held : PySem.W.subIn K (.ref C_NoText) (.ref C_Held) = some false)
    (xne_NoNote_Held : (Value.ref C_NoNote == Value.ref C_Held) = false)
    (xsb_NoNote_Held : PySem.W.subIn K (.ref C_NoNote) (.ref C_Held) = some false)
    (xne_NoText_NoRow : (Value.ref C_NoText == Value.ref C_NoRow) = false)
    (xsb_NoText_NoRow : PySem.W.subIn K (.ref C_NoText) (.ref C_NoRow) = some false)
    (xne_NoNote_NoRow : (Value.ref C_NoNote == Value.ref C_NoRow) = false)
    (xsb_NoNote_NoRow : PySem.W.subIn K (.ref C_NoNote) (.ref C_NoRow) = some false)
    (xne_NoText_NoCell : (Value.ref C_NoText == Value.ref C_NoCell) = false)
    (xsb_NoText_NoCell : PySem.W.subIn K (.ref C_NoText) (.ref C_NoCell) = some false)
    (xne_NoNote_NoCell : (Value.ref C_NoNote == Value.ref C_NoCell) = false)
    (xsb_NoNote_NoCell : PySem.W.subIn K (.ref C_NoNote) (.ref C_NoCell) = some false)
    (xne_NoText_Full : (Value.ref C_NoText == Value.ref C_Full) = false)
    (xsb_NoText_Full : PySem.W.subIn K (.ref C_NoText) (.ref C_Full) = some false)
    (xne_NoNote_Full : (Value.ref C_NoNote == Value.ref C_Full) = false)
    (xsb_NoNote_Full : PySem.W.subIn K (.ref C_NoNote) (.ref C_Full) = some false)
    (xne_NoText_NoTarget : (Value.ref C_NoText == Value.ref C_NoTarget) = false)
    (xsb_NoText_NoTarget : PySem.W.subIn K (.ref C_NoText) (.ref C_NoTarget) = some false)
    (xne_NoNote_NoTarget : (Value.ref C_NoNote == Value.ref C_NoTarget) = false)
    (xsb_NoNote_NoTarget : PySem.W.subIn K (.ref C_NoNote) (.ref C_NoTarget) = some false)
    (xne_NoText_NoHand : (Value.ref C_NoText == Value.ref C_NoHand) = false)
    (xsb_NoText_NoHand : PySem.W.subIn K (.ref C_NoText) (.ref C_NoHand) = some false)
    (xne_NoNote_NoHand : (Value.ref C_NoNote == Value.ref C_NoHand) = false)
    (xsb_NoNote_NoHand : PySem.W.subIn K (.ref C_NoNote) (.ref C_NoHand) = some false)
    (xne_NoText_Over : (Value.ref C_NoText == Value.ref C_Over) = false)
    (xsb_NoText_Over : PySem.W.subIn K (.ref C_NoText) (.ref C_Over) = some false)
    (xne_NoNote_Over : (Value.ref C_NoNote == Value.ref C_Over) = false)
    (xsb_NoNote_Over : PySem.W.subIn K (.ref C_NoNote) (.ref C_Over) = some false)
    (xne_NoText_NoPlace : (Value.ref C_NoText == Value.ref C_NoPlace) = false)
    (xsb_NoText_NoPlace : PySem.W.subIn K (.ref C_NoText) (.ref C_NoPlace) = some false)
    (xne_NoNote_NoPlace : (Value.ref C_NoNote == Value.ref C_NoPlace) = false)
    (xsb_NoNote_NoPlace : PySem.W.subIn K (.ref C_NoNote) (.ref C_NoPlace) = some false)
    (xne_NoText_NoOrder : (Value.ref C_NoText == Value.ref C_NoOrder) = false)
    (xsb_NoText_NoOrder : PySem.W.subIn K (.ref C_NoText) (.ref C_NoOrder) = some false)
    (xne_NoNote_NoOrder : (Value.ref C_NoNote == Value.ref C_NoOrder) = false)
    (xsb_NoNote_NoOrder : PySem.W.subIn K (.ref C_NoNote) (.ref C_NoOrder) = some false)
    (xne_NoText_NoCut : (Value.ref C_NoText == Value.ref C_NoCut) = false)
    (xsb_NoText_NoCut : PySem.W.subIn K (.ref C_NoText) (.ref C_NoCut) = some false)
    (xne_NoNote_NoCut : (Value.ref C_NoNote == Value.ref C_NoCut) = false)
    (xsb_NoNote_NoCut : PySem.W.subIn K (.ref C_NoNote) (.ref C_NoCut) = some false)
    (xne_NoText_TooMany : (Value.ref C_NoText == Value.ref C_TooMany) = false)
    (xsb_NoText_TooMany : PySem.W.subIn K (.ref C_NoText) (.ref C_TooMany) = some false)
    (xne_NoNote_TooMany : (Value.ref C_NoNote == Value.ref C_TooMany) = false)
    (xsb_NoNote_TooMany : PySem.W.subIn K (.ref C_NoNote) (.ref C_TooMany) = some false)
    (xne_NoText_NoForm : (Value.ref C_NoText == Value.ref C_NoForm) = false)
    (xsb_NoText_NoForm : PySem.W.subIn K (.ref C_NoText) (.ref C_NoForm) = some false)
    (xne_NoNote_NoForm : (Value.ref C_NoNote == Value.ref C_NoForm) = false)
    (xsb_NoNote_NoForm : PySem.W.subIn K (.ref C_NoNote) (.ref C_NoForm) = some false)
    (xne_NoText_NoneYet : (Value.ref C_NoText == Value.ref C_NoneYet) = false)
    (xsb_NoText_NoneYet : PySem.W.subIn K (.ref C_NoText) (.ref C_NoneYet) = some false)
    (xne_NoNote_NoneYet : (Value.ref C_NoNote == Value.ref C_NoneYet) = false)
    (xsb_NoNote_NoneYet : PySem.W.subIn K (.ref C_NoNote) (.ref C_NoneYet) = some false)
    (xne_NoText_NoNumber : (Value.ref C_NoText == Value.ref C_NoNumber) = false)
    (xsb_NoText_NoNumber : PySem.W.subIn K (.ref C_NoText) (.ref C_NoNumber) = some false)
    (xne_NoNote_NoNumber : (Value.ref C_NoNote == Value.ref C_NoNumber) = false)
    (xsb_NoNote_NoNumber : PySem.W.subIn K (.ref C_NoNote) (.ref C_NoNumber) = some false)
    (xcg : PySem.W.specialIn K (.builtin "object.__class__") "__get__" = some (some (.builtin "getset_descriptor.__get__")))
    (xct : PySem.W.takesIn K (.builtin "object.__class__") = some true)
    (xga_NoText : PySem.W.findIn K (.ref C_NoText) "__getattribute__" = some (some (.builtin "BaseException.__getattribute__")))
    (xgk_NoText : PySem.W.findIn K (.ref C_NoText) "__getattr__" = some none)
    (xmB_NoText : PySem.W.mroIn K C_NoText (.type "BaseException") = some true)
    (xca_NoText : PySem.W.findIn K (.ref C_NoText) "__class__" = some (some (.builtin "object.__class__")))
    (xmo_NoText : PySem.W.mroIn K C_NoText (.type "object") = some true)
    (xve_NoText : PySem.W.subIn K (.ref C_NoText) (.type "ValueError") = some true)
    (xex_NoText : PySem.W.excIn K C_NoText [.type "ValueError", .type "Exception", .type "BaseException", .type "object"] "ValueError.__new__" = true)
    (xga_NoNote : PySem.W.findIn K (.ref C_NoNote) "__getattribute__" = some (some (.builtin "BaseException.__getattribute__")))
    (xgk_NoNote : PySem.W.findIn K (.ref C_NoNote) "__getattr__" = some none)
    (xmB_NoNote : PySem.W.mroIn K C_NoNote (.type "BaseException") = some true)
    (xca_NoNote : PySem.W.findIn K (.ref C_NoNote) "__class__" = some (some (.builtin "object.__class__")))
    (xmo_NoNote : PySem.W.mroIn K C_NoNote (.type "object") = some true)
    (xve_NoNote : PySem.W.subIn K (.ref C_NoNote) (.type "ValueError") = some true)
    (xex_NoNote : PySem.W.excIn K C_NoNote [.type "ValueError", .type "Exception", .type "BaseException", .type "object"] "ValueError.__new__" = true)
    {gt_FIGURES : Tok} (g_FIGURES : PySem.W.nsIn K mainGlobals "FIGURES" = some (some (.str "0123456789" gt_FIGURES)))
    {gt_MOST_FIGURES : Tok} (g_MOST_FIGURES : PySem.W.nsIn K mainGlobals "MOST_FIGURES" = some (some (.int 3 gt_MOST_FIGURES)))
    {gt_MOST_HANDS : Tok} (g_MOST_HANDS : PySem.W.nsIn K mainGlobals "MOST_HANDS" = some (some (.int 8 gt_MOST_HANDS)))
    {gt_MOST_TOUCHES : Tok} (g_MOST_TOUCHES : PySem.W.nsIn K mainGlobals "MOST_TOUCHES" = some (some (.int 300 gt_MOST_TOUCHES)))
    (z_ValueError : PySem.W.nsIn K mainGlobals "ValueError" = some none) (z_abs : PySem.W.nsIn K mainGlobals "abs" = some none) (z_all : PySem.W.nsIn K mainGlobals "all" = some none) (z_bool : PySem.W.nsIn K mainGlobals "bool" = some none) (z_enumerate : PySem.W.nsIn K mainGlobals "enumerate" = some none) (z_int : PySem.W.nsIn K mainGlobals "int" = some none) (z_isinstance : PySem.W.nsIn K mainGlobals "isinstance" = some none) (z_len : PySem.W.nsIn K mainGlobals "len" = some none) (z_list : PySem.W.nsIn K mainGlobals "list" = some none) (z_max : PySem.W.nsIn K mainGlobals "max" = some none) (z_min : PySem.W.nsIn K mainGlobals "min" = some none) (z_range : PySem.W.nsIn K mainGlobals "range" = some none) (z_str : PySem.W.nsIn K mainGlobals "str" = some none) (z_sum : PySem.W.nsIn K mainGlobals "sum" = some none) (z_tuple : PySem.W.nsIn K mainGlobals "tuple" = some none) (z_zip : PySem.W.nsIn K mainGlobals "zip" = some none) :
    ∃ fd : FuncData, (∀ (s : Shared) (v : Value), BindsTo s fd ⟨[v], []⟩ [("script", v)]) ∧ ∀ base : Heap, K.In base → base.Ns mainGlobals mg → FnOk l.prog w K mg base CX0 7 fa fd ["script"] (spLaw K) := by
  have e := hfa.symm.trans (PySem.W.mg_of X G a26)
  cases e
  have Bt : Blt mg := ⟨PySem.W.mg_none_of X G z_ValueError, PySem.W.mg_none_of X G z_abs, PySem.W.mg_none_of X G z_all, PySem.W.mg_none_of X G z_bool, PySem.W.mg_none_of X G z_enumerate, PySem.W.mg_none_of X G z_int, PySem.W.mg_none_of X G z_isinstance, PySem.W.mg_none_of X G z_len, PySem.W.mg_none_of X G z_list, PySem.W.mg_none_of X G z_max, PySem.W.mg_none_of X G z_min, PySem.W.mg_none_of X G z_range, PySem.W.mg_none_of X G z_str, PySem.W.mg_none_of X G z_sum, PySem.W.mg_none_of X G z_tuple, PySem.W.mg_none_of X G z_zip⟩
  have G_FIGURES : Gv mg "FIGURES" (.str "0123456789") := ⟨_, PySem.W.mg_of X G g_FIGURES, ⟨_, rfl⟩⟩
  have G_MOST_FIGURES : Gv mg "MOST_FIGURES" (.int 3) := ⟨_, PySem.W.mg_of X G g_MOST_FIGURES, ⟨_, rfl⟩⟩
  have G_MOST_HANDS : Gv mg "MOST_HANDS" (.int 8) := ⟨_, PySem.W.mg_of X G g_MOST_HANDS, ⟨_, rfl⟩⟩
  have G_MOST_TOUCHES : Gv mg "MOST_TOUCHES" (.int 300) := ⟨_, PySem.W.mg_of X G g_MOST_TOUCHES, ⟨_, rfl⟩⟩
  have X_NoText : Xr K mg C_NoText "NoText" := ⟨PySem.W.mg_of X G xa_NoText, ⟨xcl_NoText, xty_NoText, xbs_NoText⟩, ⟨xga_NoText, xgk_NoText, xmB_NoText, xcl_NoText, xca_NoText, xcg, xct, xmo_NoText⟩, xex_NoText, xve_NoText⟩
  have X_NoNote : Xr K mg C_NoNote "NoNote" := ⟨PySem.W.mg_of X G xa_NoNote, ⟨xcl_NoNote, xty_NoNote, xbs_NoNote⟩, ⟨xga_NoNote, xgk_NoNote, xmB_NoNote, xcl_NoNote, xca_NoNote, xcg, xct, xmo_NoNote⟩, xex_NoNote, xve_NoNote⟩
  have O_NoteError : Xo K mg C_NoText C_NoteError "NoteError" true := ⟨PySem.W.mg_of X G xa_NoteError, ⟨xcl_NoteError, xty_NoteError, xbs_NoteError⟩, ⟨xne_NoText_NoteError, xsb_NoText_NoteError⟩⟩
  have O_RowError : Xo K mg C_NoText C_RowError "RowError" false := ⟨PySem.W.mg_of X G xa_RowError, ⟨xcl_RowError, xty_RowError, xbs_RowError⟩, ⟨xne_NoText_RowError, xsb_NoText_RowError⟩⟩
  have O_Held : Xo K mg C_NoText C_Held "Held" false := ⟨PySem.W.mg_of X G xa_Held, ⟨xcl_Held, xty_Held, xbs_Held⟩, ⟨xne_NoText_Held, xsb_NoText_Held⟩⟩
  have O_NoRow : Xo K mg C_NoText C_NoRow "NoRow" false := ⟨PySem.W.mg_of X G xa_NoRow, ⟨xcl_NoRow, xty_NoRow, xbs_NoRow⟩, ⟨xne_NoText_NoRow, xsb_NoText_NoRow⟩⟩
  have O_NoCell : Xo K mg C_NoText C_NoCell "NoCell" false := ⟨PySem.W.mg_of X G xa_NoCell, ⟨xcl_NoCell, xty_NoCell, xbs_NoCell⟩, ⟨xne_NoText_NoCell, xsb_NoText_NoCell⟩⟩
  have O_Full : Xo K mg C_NoText C_Full "Full" false := ⟨PySem.W.mg_of X G xa_Full, ⟨xcl_Full, xty_Full, xbs_Full⟩, ⟨xne_NoText_Full, xsb_NoText_Full⟩⟩
  have O_NoTarget : Xo K mg C_NoText C_NoTarget "NoTarget" false := ⟨PySem.W.mg_of X G xa_NoTarget, ⟨xcl_NoTarget, xty_NoTarget, xbs_NoTarget⟩, ⟨xne_NoText_NoTarget, xsb_NoText_NoTarget⟩⟩
  have O_NoHand : Xo K mg C_NoText C_NoHand "NoHand" false := ⟨PySem.W.mg_of X G xa_NoHand, ⟨xcl_NoHand, xty_NoHand, xbs_NoHand⟩, ⟨xne_NoText_NoHand, xsb_NoText_NoHand⟩⟩
  have O_Over : Xo K mg C_NoText C_Over "Over" false := ⟨PySem.W.mg_of X G xa_Over, ⟨xcl_Over, xty_Over, xbs_Over⟩, ⟨xne_NoText_Over, xsb_NoText_Over⟩⟩
  have O_NoPlace : Xo K mg C_NoText C_NoPlace "NoPlace" false := ⟨PySem.W.mg_of X G xa_NoPlace, ⟨xcl_NoPlace, xty_NoPlace, xbs_NoPlace⟩, ⟨xne_NoText_NoPlace, xsb_NoText_NoPlace⟩⟩
  have O_NoOrder : Xo K mg C_NoText C_NoOrder "NoOrder" false := ⟨PySem.W.mg_of X G xa_NoOrder, ⟨xcl_NoOrder, xty_NoOrder, xbs_NoOrder⟩, ⟨xne_NoText_NoOrder, xsb_NoText_NoOrder⟩⟩
  have O_NoCut : Xo K mg C_NoText C_NoCut "NoCut" false := ⟨PySem.W.mg_of X G xa_NoCut, ⟨xcl_NoCut, xty_NoCut, xbs_NoCut⟩, ⟨xne_NoText_NoCut, xsb_NoText_NoCut⟩⟩
  have O_TooMany : Xo K mg C_NoText C_TooMany "TooMany" false := ⟨PySem.W.mg_of X G xa_TooMany, ⟨xcl_TooMany, xty_TooMany, xbs_TooMany⟩, ⟨xne_NoText_TooMany, xsb_NoText_TooMany⟩⟩
  have O_NoForm : Xo K mg C_NoText C_NoForm "NoForm" false := ⟨PySem.W.mg_of X G xa_NoForm, ⟨xcl_NoForm, xty_NoForm, xbs_NoForm⟩, ⟨xne_NoText_NoForm, xsb_NoText_NoForm⟩⟩
  have O_NoneYet : Xo K mg C_NoText C_NoneYet "NoneYet" false := ⟨PySem.W.mg_of X G xa_NoneYet, ⟨xcl_NoneYet, xty_NoneYet, xbs_NoneYet⟩, ⟨xne_NoText_NoneYet, xsb_NoText_NoneYet⟩⟩
  have O_NoNumber : Xo K mg C_NoText C_NoNumber "NoNumber" false := ⟨PySem.W.mg_of X G xa_NoNumber, ⟨xcl_NoNumber, xty_NoNumber, xbs_NoNumber⟩, ⟨xne_NoText_NoNumber, xsb_NoText_NoNumber⟩⟩
  have Q_NoText_NoNote : XPair K C_NoText C_NoNote false := ⟨xne_NoText_NoNote, xsb_NoText_NoNote⟩
  have Q_NoNote_NoText : XPair K C_NoNote C_NoText false := ⟨xne_NoNote_NoText, xsb_NoNote_NoText⟩
  have Q_NoNote_NoteError : XPair K C_NoNote C_NoteError true := ⟨xne_NoNote_NoteError, xsb_NoNote_NoteError⟩
  have Q_NoNote_RowError : XPair K C_NoNote C_RowError false := ⟨xne_NoNote_RowError, xsb_NoNote_RowError⟩
  have Q_NoNote_Held : XPair K C_NoNote C_Held false := ⟨xne_NoNote_Held, xsb_NoNote_Held⟩
  have Q_NoNote_NoRow : XPair K C_NoNote C_NoRow false := ⟨xne_NoNote_NoRow, xsb_NoNote_NoRow⟩
  have Q_NoNote_NoCell : XPair K C_NoNote C_NoCell false := ⟨xne_NoNote_NoCell, xsb_NoNote_NoCell⟩
  have Q_NoNote_Full : XPair K C_NoNote C_Full false := ⟨xne_NoNote_Full, xsb_NoNote_Full⟩
  have Q_NoNote_NoTarget : XPair K C_NoNote C_NoTarget false := ⟨xne_NoNote_NoTarget, xsb_NoNote_NoTarget⟩
  have Q_NoNote_NoHand : XPair K C_NoNote C_NoHand false := ⟨xne_NoNote_NoHand, xsb_NoNote_NoHand⟩
  have Q_NoNote_Over : XPair K C_NoNote C_Over false := ⟨xne_NoNote_Over, xsb_NoNote_Over⟩
  have Q_NoNote_NoPlace : XPair K C_NoNote C_NoPlace false := ⟨xne_NoNote_NoPlace, xsb_NoNote_NoPlace⟩
  have Q_NoNote_NoOrder : XPair K C_NoNote C_NoOrder false := ⟨xne_NoNote_NoOrder, xsb_NoNote_NoOrder⟩
  have Q_NoNote_NoCut : XPair K C_NoNote C_NoCut false := ⟨xne_NoNote_NoCut, xsb_NoNote_NoCut⟩
  have Q_NoNote_TooMany : XPair K C_NoNote C_TooMany false := ⟨xne_NoNote_TooMany, xsb_NoNote_TooMany⟩
  have Q_NoNote_NoForm : XPair K C_NoNote C_NoForm false := ⟨xne_NoNote_NoForm, xsb_NoNote_NoForm⟩
  have Q_NoNote_NoneYet : XPair K C_NoNote C_NoneYet false := ⟨xne_NoNote_NoneYet, xsb_NoNote_NoneYet⟩
  have Q_NoNote_NoNumber : XPair K C_NoNote C_NoNumber false := ⟨xne_NoNote_NoNumber, xsb_NoNote_NoNumber⟩
  have F0 := fun_mk (st := s_number_of) l0 c0 k0
  have F1 := fun_mk (st := s_is_whole) l1 c1 k1
  have F2 := fun_mk (st := s_is_below) l2 c2 k2
  have F3 := fun_mk (st := s_is_note) l3 c3 k3
  have F4 := fun_mk (st := s_is_between) l4 c4 k4
  have F5 := fun_mk (st := s_check_notes) l5 c5 k5
  have F6 := fun_mk (st := s_read_number) l6 c6 k6
  have F7 := fun_mk (st := s_read_touch) l7 c7 k7
  have F8 := fun_mk (st := s_read_note) l8 c8 k8
  have F9 := fun_mk (st := s_read_counts) l9 c9 k9
  have F10 := fun_mk (st := s_read_record) l10 c10 k10
  have F11 := fun_mk (st := s_Lreel) l11 c11 k11
  have F12 := fun_mk (st := s_Ldraw) l12 c12 k12
  have F13 := fun_mk (st := s_Lcounts) l13 c13 k13
  have F14 := fun_mk (st := s_Lsome_notes) l14 c14 k14
  have F15 := fun_mk (st := s_Lrecord) l15 c15 k15
  have F16 := fun_mk (st := s_Ltext) l16 c16 k16
  have F17 := fun_mk (st := s_Lflags) l17 c17 k17
  have F18 := fun_mk (st := s_Lfree_text) l18 c18 k18
  have F19 := fun_mk (st := s_Lsigns) l19 c19 k19
  have F20 := fun_mk (st := s_Lsign_spoilt) l20 c20 k20
  have F21 := fun_mk (st := s_Lword_spoilt) l21 c21 k21
  have F22 := fun_mk (st := s_Lnumber) l22 c22 k22
  have F23 := fun_mk (st := s_Ltouch) l23 c23 k23
  have F24 := fun_mk (st := s_Ldue) l24 c24 k24
  have F25 := fun_mk (st := s_Lright) l25 c25 k25
  have F26 := fun_mk (st := s_law) l26 c26 k26
  refine ⟨PySem.W.fnOf "law" "law" (defArgs s_law) (defBody s_law) (defScope s_law) .none kV26 dc26 pm26 an26 cd26 ct26, fun s v => .of_eq rfl, fun base _ _ => ?_⟩
  have A0 : FnAt l.prog w K mg base 1 "number_of" ["word"] (spNumOf K) := ⟨f0, _, ok_numof F0 G_FIGURES G_MOST_FIGURES Bt, PySem.W.mg_of X G a0, k0, F0.binds (ps := ["word"]) bi_number_of⟩
  have A1 : FnAt l.prog w K mg base 1 "is_whole" ["value"] (spWh K) := ⟨f1, _, ok_is_whole F1 Bt, PySem.W.mg_of X G a1, k1, F1.binds (ps := ["value"]) bi_is_whole⟩
  have A2 : FnAt l.prog w K mg base 2 "is_below" ["value", "count"] (spBelow K) := ⟨f2, _, ok_is_below F2 A1, PySem.W.mg_of X G a2, k2, F2.binds (ps := ["value", "count"]) bi_is_below⟩
  have A3 : FnAt l.prog w K mg base 2 "is_note" ["value"] (spIsNote K) := ⟨f3, _, ok_is_note F3 A1 Bt, PySem.W.mg_of X G a3, k3, F3.binds (ps := ["value"]) bi_is_note⟩
  have A4 : FnAt l.prog w K mg base 3 "is_between" ["counts", "note"] (spBetweenG K) := ⟨f4, _, ok_is_betweenG F4 A2 A3 Bt, PySem.W.mg_of X G a4, k4, F4.binds (ps := ["counts", "note"]) bi_is_between⟩
  have A5 : FnAtX l.prog w K mg base 4 "check_notes" ["record"] (spCheckNX C_NoNote K) := ⟨f5, _, ok_check_notesX F5 A4 Bt X_NoNote, PySem.W.mg_of X G a5, k5, F5.binds (ps := ["record"]) bi_check_notes⟩
  have A6 : FnAtX l.prog w K mg base 2 "read_number" ["word"] (spReadN C_NoText K) := ⟨f6, _, ok_readN X_NoText F6 A0, PySem.W.mg_of X G a6, k6, F6.binds (ps := ["word"]) bi_read_number⟩
  have A7 : FnAtX l.prog w K mg base 3 "read_touch" ["word"] (spReadT C_NoText K) := ⟨f7, _, ok_readT F7 A6, PySem.W.mg_of X G a7, k7, F7.binds (ps := ["word"]) bi_read_touch⟩
  have A8 : FnAtX l.prog w K mg base 4 "read_note" ["line"] (spReadNt C_NoText K) := ⟨f8, _, ok_readNt X_NoText F8 A7 Bt, PySem.W.mg_of X G a8, k8, F8.binds (ps := ["line"]) bi_read_note⟩
  have A9 : FnAtX l.prog w K mg base 3 "read_counts" ["line"] (spReadC C_NoText K) := ⟨f9, _, ok_readC X_NoText F9 A6 G_MOST_HANDS G_MOST_TOUCHES Bt, PySem.W.mg_of X G a9, k9, F9.binds (ps := ["line"]) bi_read_counts⟩
  have A10 : FnAtX l.prog w K mg base 5 "read_record" ["text"] (spReadR C_NoText C_NoNote K) := ⟨f10, _, ok_readR F10 A9 A8 A5, PySem.W.mg_of X G a10, k10, F10.binds (ps := ["text"]) bi_read_record⟩
  have A11 : FnAt l.prog w K mg base 1 "_law_reel" ["cell", "k"] (spReel K) := ⟨f11, _, ok_reel F11 Bt, PySem.W.mg_of X G a11, k11, F11.binds (ps := ["cell", "k"]) bi_Lreel⟩
  have A12 : FnAt l.prog w K mg base 1 "_law_draw" ["reel", "many"] (spDraw K) := ⟨f12, _, ok_draw F12 , PySem.W.mg_of X G a12, k12, F12.binds (ps := ["reel", "many"]) bi_Ldraw⟩
  have A13 : FnAt l.prog w K mg base 2 "_law_counts" ["reel"] (spCounts K) := ⟨f13, _, ok_counts F13 A12 Bt, PySem.W.mg_of X G a13, k13, F13.binds (ps := ["reel"]) bi_Lcounts⟩
  have A14 : FnAt l.prog w K mg base 2 "_law_some_notes" ["reel", "counts", "many"] (spSome K) := ⟨f14, _, ok_some F14 A12 Bt, PySem.W.mg_of X G a14, k14, F14.binds (ps := ["reel", "counts", "many"]) bi_Lsome_notes⟩
  have A15 : FnAt l.prog w K mg base 3 "_law_record" ["reel"] (spRecord K) := ⟨f15, _, ok_record F15 A12 A13 A14 Bt, PySem.W.mg_of X G a15, k15, F15.binds (ps := ["reel"]) bi_Lrecord⟩
  have A16 : FnAt l.prog w K mg base 1 "_law_text" ["record"] (spLtext K) := ⟨f16, _, ok_Ltext F16 Bt, PySem.W.mg_of X G a16, k16, F16.binds (ps := ["record"]) bi_Ltext⟩
  have A17 : FnAt l.prog w K mg base 1 "_law_flags" ["e"] (spFlags [C_NoRow, C_NoCell, C_Full, C_NoTarget, C_NoHand, C_Over, C_NoPlace, C_NoOrder, C_NoNote, C_NoCut, C_TooMany, C_Held, C_NoText, C_NoForm, C_NoneYet, C_NoNumber] C_RowError K) := ⟨f17, _, ok_flags X_NoText X_NoNote O_NoRow O_NoCell O_Full O_NoTarget O_NoHand O_Over O_NoPlace O_NoOrder O_NoCut O_TooMany O_Held O_NoForm O_NoneYet O_NoNumber O_RowError F17 Bt, PySem.W.mg_of X G a17, k17, F17.binds (ps := ["e"]) bi_Lflags⟩
  have A18 : FnAt l.prog w K mg base 2 "_law_free_text" ["reel"] (spTxt 1400 K) := ⟨f18, _, ok_freeT F18 A12 Bt, PySem.W.mg_of X G a18, k18, F18.binds (ps := ["reel"]) bi_Lfree_text⟩
  have A19 : FnAt l.prog w K mg base 1 "_law_signs" [] (spSigns K) := ⟨f19, _, ok_signs F19 , PySem.W.mg_of X G a19, k19, F19.binds (ps := []) bi_Lsigns⟩
  have A20 : FnAt l.prog w K mg base 2 "_law_sign_spoilt" ["reel", "text"] (spSignSp K) := ⟨f20, _, ok_signSp F20 A12 A19 Bt, PySem.W.mg_of X G a20, k20, F20.binds (ps := ["reel", "text"]) bi_Lsign_spoilt⟩
  have A21 : FnAt l.prog w K mg base 2 "_law_word_spoilt" ["reel", "text"] (spWordSp K) := ⟨f21, _, ok_wordSp F21 A12 Bt, PySem.W.mg_of X G a21, k21, F21.binds (ps := ["reel", "text"]) bi_Lword_spoilt⟩
  have A22 : FnAt l.prog w K mg base 1 "_law_number" ["word"] (spNumOf K) := ⟨f22, _, ok_Lnum F22 Bt, PySem.W.mg_of X G a22, k22, F22.binds (ps := ["word"]) bi_Lnumber⟩
  have A23 : FnAt l.prog w K mg base 2 "_law_touch" ["word"] (spTouchL K) := ⟨f23, _, ok_Ltouch F23 A22 Bt, PySem.W.mg_of X G a23, k23, F23.binds (ps := ["word"]) bi_Ltouch⟩
  have A24 : FnAt l.prog w K mg base 3 "_law_due" ["text"] (spDue64 K) := ⟨f24, _, ok_Ldue F24 A22 A23 Bt, PySem.W.mg_of X G a24, k24, F24.binds (ps := ["text"]) bi_Ldue⟩
  have A25 : FnAt l.prog w K mg base 6 "_law_right" ["text"] (spRight64 K) := ⟨f25, _, ok_right64 O_NoteError Q_NoNote_NoteError (flc_text X_NoText X_NoNote O_NoRow O_NoCell O_Full O_NoTarget O_NoHand O_Over O_NoPlace O_NoOrder O_NoCut O_TooMany O_Held O_NoForm O_NoneYet O_NoNumber O_RowError Q_NoText_NoNote) (flc_note X_NoText X_NoNote O_NoRow O_NoCell O_Full O_NoTarget O_NoHand O_Over O_NoPlace O_NoOrder O_NoCut O_TooMany O_Held O_NoForm O_NoneYet O_NoNumber O_RowError Q_NoNote_NoRow Q_NoNote_NoCell Q_NoNote_Full Q_NoNote_NoTarget Q_NoNote_NoHand Q_NoNote_Over Q_NoNote_NoPlace Q_NoNote_NoOrder Q_NoNote_NoCut Q_NoNote_TooMany Q_NoNote_Held Q_NoNote_NoForm Q_NoNote_NoneYet Q_NoNote_NoNumber Q_NoNote_NoText Q_NoNote_RowError) F25 A24 A10 A17 Bt, PySem.W.mg_of X G a25, k25, F25.binds (ps := ["text"]) bi_Lright⟩
  exact ok_law F26 A11 A12 A15 A16 A18 A25 A20 A21 Bt
theorem walk {l : PySem.W.OpenLaw} {q : Program} {loose : List Str} {XP : (Str → Option Value) → Heap → Prop} {YP : World → Heap → Prop} {d : DefRec} {K : Params → PySem.W.Frag} (hn : l.most = some 63) (hdf : d.params.defaults = [])
    (hY : ∀ (w : World) (h : Heap), YP w h → (K w.params).In h)
    (F : ∀ (w : World) (mg : Str → Option Value) (fa : Addr) (h : Heap), (K w.params).In h → h.Ns mainGlobals mg → mg d.name = some (.ref fa) →
      ∃ fd : FuncData, (∀ (s : Shared) (u : Value), BindsTo s fd ⟨[u], []⟩ [("script", u)]) ∧ ∀ base : Heap, (K w.params).In base → base.Ns mainGlobals mg → FnOk l.prog w (K w.params) mg base CX0 7 fa fd ["script"] (spLaw (K w.params))) :
    PySem.W.WalkO q loose XP YP l.row.toRowW d [] (fun f vs => PySem.call f vs) :=
  L2.walk_of (n := 63) (k := 7) (x := "script") (CX := fun _ => CX0) (sp := fun w => spLaw (K w.params)) hn (by decide) hdf ⟨rfl, by decide, by decide⟩ hY F (fun _ _ a ns hl _ hS => ⟨a, ns, rfl, hS, hl, fun _ => rfl⟩) fun _ _ _ _ _ z => z
end Prf
namespace PySem.W.Fast
def tw689398791165170757 := ()
def tw7376332195420147389 := ()
def tw3628483281666947868 := ()
def tw4946771829776859341 := ()
def tw3494201203134403611 := ()
def tw8006343999115738057 := ()
def tw9938946237467424536 := ()
def tw325869081008854614 := ()
def tw18095126603790830797 := ()
def tw16720425281162080142 := ()
def tw2130486578194772116 := ()
def tw6603441345788459139 := ()
def tw12447990703691271405 := ()
def tw8188221978256692082 := ()
def tw1601878318904745143 := ()
def tw16858618227617862407 := ()
def tw1549308385648603209 := ()
def tw13298430969253806843 := ()
def tw10461351787475205871 := ()
def tw11384113046238630396 := ()
def tw5073405675552121011 := ()
def tw18315471163467258128 := ()
def tw4808355632862641703 := ()
def tw9266391770958739643 := ()
def tw11580438585499425643 := ()
def tw13227191916092087220 := ()
def tw9258878543874020074 := ()
def tw5353192029294290773 := ()
def tw18087177430377109486 := ()
def tw2618393722912915574 := ()
def tw3114476346549355380 := ()
def tw5418881259673764754 := ()
def tw1461963834370177502 := ()
def tw88829907850641309 := ()
def tw9032292475031269554 := ()
def tw18269317932826866759 := ()
def tw7556208565212787339 := ()
def tw13902151776004233013 := ()
def tw6473692064482042420 := ()
def tw18061940927788120738 := ()
def tw3006203220896303698 := ()
def tw11013896952106708572 := ()
def tw18278173363430246074 := ()
def tw8817101783381747974 := ()
def tw10471885338902263246 := ()
def tw3228295270605387985 := ()
def tw447529731399491711 := ()
def tw11559206980166457317 := ()
def tw246104365628062586 := ()
def tw2974341167058611811 := ()
def tw10215879637402182733 := ()
def tw7093912620344597623 := ()
def tw4915577290238939289 := ()
def tw126376994838187342 := ()
def tw4475263531046815467 := ()
def tw11956138786483484511 := ()
def tw8127659772328733474 := ()
def tw12560494441965289409 := ()
def tw8016481861280719087 := ()
def tw9366180164861147162 := ()
def tw3954804349284378356 := ()
def tw14491744344936327171 := ()
def tw4409605135212910497 := ()
def tw10692025274862746906 := ()
def tw15007345833067524450 := ()
def tw10752489461487807545 := ()
def tw12156567199399570639 := ()
def tw6278907227933927650 := ()
def tw6984724680473978524 := ()
def tw2904478931573463065 := ()
def tw4952257724191328068 := ()
def tw17629146563894955084 := ()
def tw12906306839995959592 := ()
def tw15211303501773763632 := ()
def tw12769716400426380864 := ()
def tw7304789282884569242 := ()
def tw9897299259585670811 := ()
def tw2171437770791331311 := ()
def tw11737126901661284889 := ()
def tw15644982575445149462 := ()
def tw653825962487691300 := ()
def tw9977165219089426400 := ()
def tw3411486577273432041 := ()
def tw15342978849077835026 := ()
def tw7452038408979578900 := ()
def tw4405430692667514275 := ()
def tw12496523274972279731 := ()
def tw6890780145180299022 := ()
def tw2506236429357859608 := ()
def tw3633757728585109594 := ()
def tw18240663907045084924 := ()
def tw6432879608910818561 := ()
def tw17747079576855720927 := ()
def tw7010078136655418287 := ()
def tw14338963328247827564 := ()
def tw10614748246156572170 := ()
def tw8789015884738653077 := ()
def tw7235827642792050450 := ()
def tw3422804155790434011 := ()
def tw9387698426033830858 := ()
def tw8688162850545443746 := ()
def tw3394898115211136547 := ()
def tw17075595623591136299 := ()
def tw909579797355505252 := ()
def tw10528076483412993677 := ()
def tw8873366825445337194 := ()
def tw2874099859580813428 := ()
def tw4237151644717748276 := ()
def tw11199437475540998689 := ()
def tw10676353380220184009 := ()
def tw13172329068227157082 := ()
def tw11888165218801029106 := ()
def tw2663733294987950238 := ()
def tw3899783485498414252 := ()
def tw9149492243523618436 := ()
def tw16278074427241372418 := ()
def tw17781793397582666513 := ()
def tw18086500981275007199 := ()
def tw2960137964315955268 := ()
def tw3682301169203008805 := ()
def tw6700275687496881273 := ()
def tw1518173910091906651 := ()
def tw6929447764153475033 := ()
def tw2789094511255142190 := ()
def tw8059683998175880239 := ()
def tw5491182798862324547 := ()
def tw5885008350302116601 := ()
def tw16772822889116405121 := ()
def tw12947480834400600214 := ()
def tw9245455632406892720 := ()
def tw13712580940083843829 := ()
def tw10018845049468050528 := ()
def tw7598875799213926975 := ()
def tw6361837043771556971 := ()
def tw17378998713906783732 := ()
def tw5301207728426463676 := ()
def tw6743152701307248399 := ()
def tw13365914965336403028 := ()
def tw17606780842801439936 := ()
def tw5703396702911014621 := ()
def tw13184498638037424567 := ()
def tw9350563888950539071 := ()
def tw4589983167560500704 := ()
def tw3296097393880282426 := ()
def tw13773539810147356982 := ()
def tw17128883506838226226 := ()
def tw825455164433229934 := ()
def tw18085261233832521010 := ()
def tw16073739779013620562 := ()
def tw13908173515244257943 := ()
def tw12571094271948560114 := ()
def tw18045018120797308891 := ()
def tw16620030272614646316 := ()
def tw3140937305317909313 := ()
def tw16292182092004503342 := ()
def tw13983361750600499608 := ()
def tw7748536410030934544 := ()
def tw9761514369493463130 := ()
def tw18313483305206674860 := ()
def tw18076446281817623802 := ()
def tw16005284403892782008 := ()
def tw14307162017394743822 := ()
def tw6112580891995697008 := ()
def tw5017511545375885883 := ()
def tw4371190853210159174 := ()
def tw7700414839788451230 := ()
def tw5272719969609053898 := ()
def tw6324214481696849822 := ()
def tw6611151765722986197 := ()
def tw11573727720943781082 := ()
def tw1282364054432208625 := ()
def tw4652553953955971622 := ()
def tw3936999497742567381 := ()
def tw1757933456084735790 := ()
def tw15065234440885507661 := ()
def tw13553588858383109539 := ()
def tw18216338366813804512 := ()
def tw8020558283936345271 := ()
def tw11399899898011663202 := ()
def tw15408323010448348607 := ()
def tw14758310261420693992 := ()
def tw16597179293737011862 := ()
def tw15721033176489069442 := ()
def tw8066696869060101591 := ()
def tw11248688327819258688 := ()
def tw14155468206843352435 := ()
def tw10680559892658991100 := ()
def tw1256756087957572992 := ()
def tw2401387259040433583 := ()
def tw4761617295802601834 := ()
def tw10749762222217049797 := ()
def tw1097791842462388943 := ()
def tw13185499872837231903 := ()
def tw4596061533249769689 := ()
def tw7403664916940869035 := ()
def tw8798506071781220137 := ()
def tw11462959176209613385 := ()
def tw13148712510561239734 := ()
def tw16827518459358764989 := ()
def tw225817981152980949 := ()
def tw7312976623229665963 := ()
def tw7746686445510538854 := ()
def tw2858799952124510706 := ()
def tw6009041585100413964 := ()
def tw15766929319494431725 := ()
def tw17942830054950501907 := ()
def tw5143413793320772634 := ()
def tw9875131104204203307 := ()
def tw2643281078281334159 := ()
def tw5543428857192278026 := ()
def tw16897471346458243263 := ()
def tw17689924676355398121 := ()
def tw8513198412743028138 := ()
def tw6167365195276537838 := ()
def tw5876036001147383710 := ()
def tw16291064179063621891 := ()
def tw8046988386733550342 := ()
def tw14164122402577689385 := ()
def tw2762953530171753780 := ()
def tw15314761927396313474 := ()
def tw2396144431428776611 := ()
def tw8965578352167975029 := ()
def tw6877205124387094206 := ()
def tw719381301824588123 := ()
def tw17455458131257790541 := ()
def tw16393120106413400091 := ()
def tw4127098572358223132 := ()
def tw12535776329585624258 := ()
def tw13988466388203924026 := ()
def tw1520652171687028205 := ()
def tw13891540281421461053 := ()
def tw15260546589182688280 := ()
def tw14525429128465000455 := ()
def tw3726247611241967946 := ()
def tw11218395272984136853 := ()
def tw8633704108785109175 := ()
def tw10449101348384479721 := ()
def tw10805817082690534884 := ()
def tw6255000249048291839 := ()
def tw1088040820280191271 := ()
def tw11215886108706861875 := ()
def tw11422487012697644032 := ()
def tw14403398569370005306 := ()
def tw1277429385035338739 := ()
def tw14358833351353059988 := ()
def tw3577729505074249548 := ()
def tw10718556096720261387 := ()
def tw9912871360246824584 := ()
def tw11388618740340236712 := ()
def tw4007821640344667300 := ()
def tw13800338386715962306 := ()
def tw4251741079388387525 := ()
def tw11483879791508411517 := ()
def tw16346234227380908878 := ()
def tw13025516326716980307 := ()
def tw13831754079716472090 := ()
def tw7696118425083952025 := ()
def tw652890043647529114 := ()
def tw677920247113767763 := ()
def tw5869862372948345006 := ()
def tw12410041399176260943 := ()
def tw6868810436351177210 := ()
def tw3809996066977461162 := ()
def tw17784727409449022371 := ()
def tw6354251211326547216 := ()
def tw2789062537141820218 := ()
def tw1688834967467549520 := ()
def tw7301027044245954898 := ()
def tw10791605773147414643 := ()
def tw8094288485517482394 := ()
def tw7961990241170592955 := ()
def tw9262617851212619552 := ()
def tw11075998415089026657 := ()
def tw9783799822997748801 := ()
def tw6936750041171997231 := ()
def tw14917662773617056116 := ()
def tw13163368371050426219 := ()
def tw14147250398787826962 := ()
def tw3257695553686631226 := ()
def tw9867100682007833213 := ()
def tw10229419043627287611 := ()
def tw11378770633361128223 := ()
def tw11623691225585806023 := ()
def tw17986165561965001331 := ()
def tw14704123261883863932 := ()
def tw12230936961144667914 := ()
def tw9412013065107372324 := ()
def tw6851147331916988718 := ()
def tw5551816442541600955 := ()
def tw5544885127208790753 := ()
def tw3490680868789034379 := ()
def tw8162469775605922792 := ()
def tw5051712992538811562 := ()
def tw12282547933656929687 := ()
def tw14287494431609745800 := ()
def tw370288888797526071 := ()
def tw18057772890975317859 := ()
def tw15528531966121228668 := ()
def tw2935367211680431544 := ()
def tw16925290764041802639 := ()
def tw14219358822423176211 := ()
def tw18170958873481139976 := ()
def tw16895398956171847842 := ()
def tw6661554213194160575 := ()
def tw426759860324244904 := ()
def tw15449838332328890352 := ()
def tw5339967649124434799 := ()
def tw14372604599341772091 := ()
def tw12671521339343727795 := ()
def tw13732409715729299580 := ()
def tw15449502713641711476 := ()
def tw14783210747087929887 := ()
def tw8713392773837304622 := ()
def tw14460691321444365300 := ()
def tw8781910584498978379 := ()
def tw11813554921154358093 := ()
def tw5657740343709352447 := ()
def tw17347469255123086772 := ()
def tw4625160133566216218 := ()
def tw10183231327216262626 := ()
def tw15793312754546844861 := ()
def tw202994419388448658 := ()
def tw4473485721810915844 := ()
def tw14584587045442928246 := ()
def tw2970783600319369917 := ()
def tw9687246060183553887 := ()
def tw11232004634992548293 := ()
def tw2429829787198672829 := ()
def tw43862012779076599 := ()
def tw9698751990661127171 := ()
def tw10879714068084785969 := ()
def tw6318963222494308517 := ()
def tw12224097978241506342 := ()
def tw2277483232893371157 := ()
def tw12734087873364491208 := ()
def tw11919661112512719806 := ()
def tw8362529712581457274 := ()
def tw12705799684739793225 := ()
def tw11350911358376439503 := ()
def tw10735090736147866167 := ()
def tw3016414935794578411 := ()
def tw16937588077190596177 := ()
def tw16482575744548664943 := ()
def tw13396018638070623297 := ()
def tw4204591657094454039 := ()
def tw12338982938951232839 := ()
def tw8708736364372776677 := ()
def tw58622886981635718 := ()
def tw5272600549772590517 := ()
def tw341161926942499118 := ()
def tw14811478383074926788 := ()
def tw4880914208974854364 := ()
def tw2794886354481508638 := ()
def tw8762290180232290643 := ()
def tw14729105686999222724 := ()
def tw485947338938074011 := ()
def tw11037071836401278639 := ()
def tw1098938774903703112 := ()
def tw17478580377964576007 := ()
def tw8197180124617282293 := ()
def tw11921227187670762612 := ()
def tw17007587846452449454 := ()
def tw6312339088873714044 := ()
def tw5788259434793171866 := ()
def tw7284256945501462703 := ()
def tw11344848669046703633 := ()
def tw7944914190014358355 := ()
def tw10309477268486806694 := ()
def tw9144290345915174323 := ()
def tw7253410239997555274 := ()
def tw3298277738719412857 := ()
def tw18077801387019680661 := ()
def tw13442680295475566476 := ()
def tw13687096081574547000 := ()
def tw17844023509810855455 := ()
def tw14795485123335542497 := ()
def tw2010579196175824017 := ()
def tw95384779040467081 := ()
def tw15259915182274444120 := ()
def tw18133003813312791907 := ()
def tw6442267924261581499 := ()
def tw17130417630639422049 := ()
def tw8191988750727976145 := ()
def tw11890896052282753584 := ()
def tw4079877531477292697 := ()
def tw7610318091034672619 := ()
def tw17107158538368174283 := ()
def tw5987897988558605407 := ()
def tw12868999403629005994 := ()
def tw5607919461092155668 := ()
def tw14189306186635876508 := ()
def tw15050755391523629597 := ()
def tw11574328443618134905 := ()
def tw1531233675119198394 := ()
def tw10160685167925394579 := ()
def tw10682999035342386180 := ()
def tw13377664107584163754 := ()
def tw3539826957817145748 := ()
def tw14067227284741541965 := ()
def tw6586506792988761842 := ()
def tw2246316452386525976 := ()
def tw2443414358113078483 := ()
def tw17518008590167316235 := ()
def tw4222701436220966733 := ()
def tw14052542563071044031 := ()
def tw1820271153148428329 := ()
def tw10722088466382550978 := ()
def tw14109549107887867239 := ()
def tw14831206925788396558 := ()
def tw5333130306558264483 := ()
def tw15152183317509218383 := ()
def tw6458853923816920910 := ()
def tw15211163603778374752 := ()
def tw2914605658947633387 := ()
def tw14109397158819369716 := ()
def tw16637416233720404023 := ()
def tw15178738374594497990 := ()
def tw5584051818743351101 := ()
def tw15871972838227865239 := ()
def tw3330720956970131304 := ()
def tw7987657027020731207 := ()
def tw6562791222481850842 := ()
def tw13125837179328640250 := ()
def tw2799166400833680633 := ()
def tw14957249044369267508 := ()
def tw6915544645616466619 := ()
def tw3601759945689010682 := ()
def tw12763609628063037812 := ()
def tw11556873197140221583 := ()
def tw13428472401841615285 := ()
def tw1920674122232930872 := ()
def tw1174580673101896025 := ()
def tw4204180998871632821 := ()
def tw9949474639946601217 := ()
def tw10482481996678233447 := ()
def tw7754312184417003845 := ()
def tw91477651640087793 := ()
def tw16552390917954459550 := ()
def tw16600095503453422106 := ()
end PySem.W.Fast
open PySem PySem.W PyProof.Rows
set_option maxRecDepth 100000 in
set_option maxHeartbeats 0 in
theorem PySem.Challenge.cw_fewnotes_k64_texts_of_no_record_holds : PySem.Challenge.rw_fewnotes_k64_texts_of_no_record.Holds := by
  w_on; o_law; k_head; (case hw => w_witness2)
  k_fill
  refine Prf.walk (l := PySem.Challenge.rw_fewnotes_k64_texts_of_no_record) rfl rfl (fun w h Y => PySem.W.kIn_of Y) ?F
  case F =>
    intro w mg fa h KX G hmg
    replace hmg : mg (Str.ofString "law") = some (.ref fa) := hmg
    refine' Prf.all_mk KX G hmg ?a0 ?l0 ?c0 ?k0 ?a1 ?l1 ?c1 ?k1 ?a2 ?l2 ?c2 ?k2 ?a3 ?l3 ?c3 ?k3 ?a4 ?l4 ?c4 ?k4 ?a5 ?l5 ?c5 ?k5 ?a6 ?l6 ?c6 ?k6 ?a7 ?l7 ?c7 ?k7 ?a8 ?l8 ?c8 ?k8 ?a9 ?l9 ?c9 ?k9 ?a10 ?l10 ?c10 ?k10 ?a11 ?l11 ?c11 ?k11 ?a12 ?l12 ?c12 ?k12 ?a13 ?l13 ?c13 ?k13 ?a14 ?l14 ?c14 ?k14 ?a15 ?l15 ?c15 ?k15 ?a16 ?l16 ?c16 ?k16 ?a17 ?l17 ?c17 ?k17 ?a18 ?l18 ?c18 ?k18 ?a19 ?l19 ?c19 ?k19 ?a20 ?l20 ?c20 ?k20 ?a21 ?l21 ?c21 ?k21 ?a22 ?l22 ?c22 ?k22 ?a23 ?l23 ?c23 ?k23 ?a24 ?l24 ?c24 ?k24 ?a25 ?l25 ?c25 ?k25 ?a26 ?l26 ?c26 ?k26 ?xa_NoText ?xcl_NoText ?xty_NoText ?xbs_NoText ?xa_NoNote ?xcl_NoNote ?xty_NoNote ?xbs_NoNote ?xa_NoteError ?xcl_NoteError ?xty_NoteError ?xbs_NoteError ?xa_RowError ?xcl_RowError ?xty_RowError ?xbs_RowError ?xa_Held ?xcl_Held ?xty_Held ?xbs_Held ?xa_NoRow ?xcl_NoRow ?xty_NoRow ?xbs_NoRow ?xa_NoCell ?xcl_NoCell ?xty_NoCell ?xbs_NoCell ?xa_Full ?xcl_Full ?xty_Full ?xbs_Full ?xa_NoTarget ?xcl_NoTarget ?xty_NoTarget ?xbs_NoTarget ?xa_NoHand ?xcl_NoHand ?xty_NoHand ?xbs_NoHand ?xa_Over ?xcl_Over ?xty_Over ?xbs_Over ?xa_NoPlace ?xcl_NoPlace ?xty_NoPlace ?xbs_NoPlace ?xa_NoOrder ?xcl_NoOrder ?xty_NoOrder ?xbs_NoOrder ?xa_NoCut ?xcl_NoCut ?xty_NoCut ?xbs_NoCut ?xa_TooMany ?xcl_TooMany ?xty_TooMany ?xbs_TooMany ?xa_NoForm ?xcl_NoForm ?xty_NoForm ?xbs_NoForm ?xa_NoneYet ?xcl_NoneYet ?xty_NoneYet ?xbs_NoneYet ?xa_NoNumber ?xcl_NoNumber ?xty_NoNumber ?xbs_NoNumber ?xne_NoNote_NoText ?xsb_NoNote_NoText ?xne_NoText_NoNote ?xsb_NoText_NoNote ?xne_NoText_NoteError ?xsb_NoText_NoteError ?xne_NoNote_NoteError ?xsb_NoNote_NoteError ?xne_NoText_RowError ?xsb_NoText_RowError ?xne_NoNote_RowError ?xsb_NoNote_RowError ?xne_NoText_Held ?xsb_NoText_Held ?xne_NoNote_Held ?xsb_NoNote_Held ?xne_NoText_NoRow ?xsb_NoText_NoRow ?xne_NoNote_NoRow ?xsb_NoNote_NoRow ?xne_NoText_NoCell ?xsb_NoText_NoCell ?xne_NoNote_NoCell ?xsb_NoNote_NoCell ?xne_NoText_Full ?xsb_NoText_Full ?xne_NoNote_Full ?xsb_NoNote_Full ?xne_NoText_NoTarget ?xsb_NoText_NoTarget ?xne_NoNote_NoTarget ?xsb_NoNote_NoTarget ?xne_NoText_NoHand ?xsb_NoText_NoHand ?xne_NoNote_NoHand ?xsb_NoNote_NoHand ?xne_NoText_Over ?xsb_NoText_Over ?xne_NoNote_Over ?xsb_NoNote_Over ?xne_NoText_NoPlace ?xsb_NoText_NoPlace ?xne_NoNote_NoPlace ?xsb_NoNote_NoPlace ?xne_NoText_NoOrder ?xsb_NoText_NoOrder ?xne_NoNote_NoOrder ?xsb_NoNote_NoOrder ?xne_NoText_NoCut ?xsb_NoText_NoCut ?xne_NoNote_NoCut ?xsb_NoNote_NoCut ?xne_NoText_TooMany ?xsb_NoText_TooMany ?xne_NoNote_TooMany ?xsb_NoNote_TooMany ?xne_NoText_NoForm ?xsb_NoText_NoForm ?xne_NoNote_NoForm ?xsb_NoNote_NoForm ?xne_NoText_NoneYet ?xsb_NoText_NoneYet ?xne_NoNote_NoneYet ?xsb_NoNote_NoneYet ?xne_NoText_NoNumber ?xsb_NoText_NoNumber ?xne_NoNote_NoNumber ?xsb_NoNote_NoNumber ?xcg ?xct ?xga_NoText ?xgk_NoText ?xmB_NoText ?xca_NoText ?xmo_NoText ?xve_NoText ?xex_NoText ?xga_NoNote ?xgk_NoNote ?xmB_NoNote ?xca_NoNote ?xmo_NoNote ?xve_NoNote ?xex_NoNote ?g_FIGURES ?g_MOST_FIGURES ?g_MOST_HANDS ?g_MOST_TOUCHES ?z_ValueError ?z_abs ?z_all ?z_bool ?z_enumerate ?z_int ?z_isinstance ?z_len ?z_list ?z_max ?z_min ?z_range ?z_str ?z_sum ?z_tuple ?z_zip
    (case xa_NoText => k_is)
    (case xcl_NoText => rfl)
    (case xty_NoText => k_is)
    (case xbs_NoText => k_is)
    (case xa_NoNote => k_is)
    (case xcl_NoNote => rfl)
    (case xty_NoNote => k_is)
    (case xbs_NoNote => k_is)
    (case xa_NoteError => k_is)
    (case xcl_NoteError => rfl)
    (case xty_NoteError => k_is)
    (case xbs_NoteError => k_is)
    (case xa_RowError => k_is)
    (case xcl_RowError => rfl)
    (case xty_RowError => k_is)
    (case xbs_RowError => k_is)
    (case xa_Held => k_is)
    (case xcl_Held => rfl)
    (case xty_Held => k_is)
    (case xbs_Held => k_is)
    (case xa_NoRow => k_is)
    (case xcl_NoRow => rfl)
    (case xty_NoRow => k_is)
    (case xbs_NoRow => k_is)
    (case xa_NoCell => k_is)
    (case xcl_NoCell => rfl)
    (case xty_NoCell => k_is)
    (case xbs_NoCell => k_is)
    (case xa_Full => k_is)
    (case xcl_Full => rfl)
    (case xty_Full => k_is)
    (case xbs_Full => k_is)
    (case xa_NoTarget => k_is)
    (case xcl_NoTarget => rfl)
    (case xty_NoTarget => k_is)
    (case xbs_NoTarget => k_is)
    (case xa_NoHand => k_is)
    (case xcl_NoHand => rfl)
    (case xty_NoHand => k_is)
    (case xbs_NoHand => k_is)
    (case xa_Over => k_is)
    (case xcl_Over => rfl)
    (case xty_Over => k_is)
    (case xbs_Over => k_is)
    (case xa_NoPlace => k_is)
    (case xcl_NoPlace => rfl)
    (case xty_NoPlace => k_is)
    (case xbs_NoPlace => k_is)
    (case xa_NoOrder => k_is)
    (case xcl_NoOrder => rfl)
    (case xty_NoOrder => k_is)
    (case xbs_NoOrder => k_is)
    (case xa_NoCut => k_is)
    (case xcl_NoCut => rfl)
    (case xty_NoCut => k_is)
    (case xbs_NoCut => k_is)
    (case xa_TooMany => k_is)
    (case xcl_TooMany => rfl)
    (case xty_TooMany => k_is)
    (case xbs_TooMany => k_is)
    (case xa_NoForm => k_is)
    (case xcl_NoForm => rfl)
    (case xty_NoForm => k_is)
    (case xbs_NoForm => k_is)
    (case xa_NoneYet => k_is)
    (case xcl_NoneYet => rfl)
    (case xty_NoneYet => k_is)
    (case xbs_NoneYet => k_is)
    (case xa_NoNumber => k_is)
    (case xcl_NoNumber => rfl)
    (case xty_NoNumber => k_is)
    (case xbs_NoNumber => k_is)
    (case xne_NoNote_NoText => rfl)
    (case xsb_NoNote_NoText => k_is)
    (case xne_NoText_NoNote => rfl)
    (case xsb_NoText_NoNote => k_is)
    (case xne_NoText_NoteError => rfl)
    (case xsb_NoText_NoteError => k_is)
    (case xne_NoNote_NoteError => rfl)
    (case xsb_NoNote_NoteError => k_is)
    (case xne_NoText_RowError => rfl)
    (case xsb_NoText_RowError => k_is)
    (case xne_NoNote_RowError => rfl)
    (case xsb_NoNote_RowError => k_is)
    (case xne_NoText_Held => rfl)
    (case xsb_NoText_Held => k_is)
    (case xne_NoNote_Held => rfl)
    (case xsb_NoNote_Held => k_is)
    (case xne_NoText_NoRow => rfl)
    (case xsb_NoText_NoRow => k_is)
    (case xne_NoNote_NoRow => rfl)
    (case xsb_NoNote_NoRow => k_is)
    (case xne_NoText_NoCell => rfl)
    (case xsb_NoText_NoCell => k_is)
    (case xne_NoNote_NoCell => rfl)
    (case xsb_NoNote_NoCell => k_is)
    (case xne_NoText_Full => rfl)
    (case xsb_NoText_Full => k_is)
    (case xne_NoNote_Full => rfl)
    (case xsb_NoNote_Full => k_is)
    (case xne_NoText_NoTarget => rfl)
    (case xsb_NoText_NoTarget => k_is)
    (case xne_NoNote_NoTarget => rfl)
    (case xsb_NoNote_NoTarget => k_is)
    (case xne_NoText_NoHand => rfl)
    (case xsb_NoText_NoHand => k_is)
    (case xne_NoNote_NoHand => rfl)
    (case xsb_NoNote_NoHand => k_is)
    (case xne_NoText_Over => rfl)
    (case xsb_NoText_Over => k_is)
    (case xne_NoNote_Over => rfl)
    (case xsb_NoNote_Over => k_is)
    (case xne_NoText_NoPlace => rfl)
    (case xsb_NoText_NoPlace => k_is)
    (case xne_NoNote_NoPlace => rfl)
    (case xsb_NoNote_NoPlace => k_is)
    (case xne_NoText_NoOrder => rfl)
    (case xsb_NoText_NoOrder => k_is)
    (case xne_NoNote_NoOrder => rfl)
    (case xsb_NoNote_NoOrder => k_is)
    (case xne_NoText_NoCut => rfl)
    (case xsb_NoText_NoCut => k_is)
    (case xne_NoNote_NoCut => rfl)
    (case xsb_NoNote_NoCut => k_is)
    (case xne_NoText_TooMany => rfl)
    (case xsb_NoText_TooMany => k_is)
    (case xne_NoNote_TooMany => rfl)
    (case xsb_NoNote_TooMany => k_is)
    (case xne_NoText_NoForm => rfl)
    (case xsb_NoText_NoForm => k_is)
    (case xne_NoNote_NoForm => rfl)
    (case xsb_NoNote_NoForm => k_is)
    (case xne_NoText_NoneYet => rfl)
    (case xsb_NoText_NoneYet => k_is)
    (case xne_NoNote_NoneYet => rfl)
    (case xsb_NoNote_NoneYet => k_is)
    (case xne_NoText_NoNumber => rfl)
    (case xsb_NoText_NoNumber => k_is)
    (case xne_NoNote_NoNumber => rfl)
    (case xsb_NoNote_NoNumber => k_is)
    (case xcg => k_is)
    (case xct => k_is)
    (case xga_NoText => k_is)
    (case xgk_NoText => k_is)
    (case xmB_NoText => k_is)
    (case xca_NoText => k_is)
    (case xmo_NoText => k_is)
    (case xve_NoText => k_is)
    (case xex_NoText => k_exc)
    (case xga_NoNote => k_is)
    (case xgk_NoNote => k_is)
    (case xmB_NoNote => k_is)
    (case xca_NoNote => k_is)
    (case xmo_NoNote => k_is)
    (case xve_NoNote => k_is)
    (case xex_NoNote => k_exc)
    (case g_FIGURES => k_is)
    (case g_MOST_FIGURES => k_is)
    (case g_MOST_HANDS => k_is)
    (case g_MOST_TOUCHES => k_is)
    (case a0 => k_is)
    (case l0 => k_is)
    (case c0 => k_is)
    (case k0 => k_is)
    (case a1 => k_is)
    (case l1 => k_is)
    (case c1 => k_is)
    (case k1 => k_is)
    (case a2 => k_is)
    (case l2 => k_is)
    (case c2 => k_is)
    (case k2 => k_is)
    (case a3 => k_is)
    (case l3 => k_is)
    (case c3 => k_is)
    (case k3 => k_is)
    (case a4 => k_is)
    (case l4 => k_is)
    (case c4 => k_is)
    (case k4 => k_is)
    (case a5 => k_is)
    (case l5 => k_is)
    (case c5 => k_is)
    (case k5 => k_is)
    (case a6 => k_is)
    (case l6 => k_is)
    (case c6 => k_is)
    (case k6 => k_is)
    (case a7 => k_is)
    (case l7 => k_is)
    (case c7 => k_is)
    (case k7 => k_is)
    (case a8 => k_is)
    (case l8 => k_is)
    (case c8 => k_is)
    (case k8 => k_is)
    (case a9 => k_is)
    (case l9 => k_is)
    (case c9 => k_is)
    (case k9 => k_is)
    (case a10 => k_is)
    (case l10 => k_is)
    (case c10 => k_is)
    (case k10 => k_is)
    (case a11 => k_is)
    (case l11 => k_is)
    (case c11 => k_is)
    (case k11 => k_is)
    (case a12 => k_is)
    (case l12 => k_is)
    (case c12 => k_is)
    (case k12 => k_is)
    (case a13 => k_is)
    (case l13 => k_is)
    (case c13 => k_is)
    (case k13 => k_is)
    (case a14 => k_is)
    (case l14 => k_is)
    (case c14 => k_is)
    (case k14 => k_is)
    (case a15 => k_is)
    (case l15 => k_is)
    (case c15 => k_is)
    (case k15 => k_is)
    (case a16 => k_is)
    (case l16 => k_is)
    (case c16 => k_is)
    (case k16 => k_is)
    (case a17 => k_is)
    (case l17 => k_is)
    (case c17 => k_is)
    (case k17 => k_is)
    (case a18 => k_is)
    (case l18 => k_is)
    (case c18 => k_is)
    (case k18 => k_is)
    (case a19 => k_is)
    (case l19 => k_is)
    (case c19 => k_is)
    (case k19 => k_is)
    (case a20 => k_is)
    (case l20 => k_is)
    (case c20 => k_is)
    (case k20 => k_is)
    (case a21 => k_is)
    (case l21 => k_is)
    (case c21 => k_is)
    (case k21 => k_is)
    (case a22 => k_is)
    (case l22 => k_is)
    (case c22 => k_is)
    (case k22 => k_is)
    (case a23 => k_is)
    (case l23 => k_is)
    (case c23 => k_is)
    (case k23 => k_is)
    (case a24 => k_is)
    (case l24 => k_is)
    (case c24 => k_is)
    (case k24 => k_is)
    (case a25 => k_is)
    (case l25 => k_is)
    (case c25 => k_is)
    (case k25 => k_is)
    (case a26 => k_is)
    (case l26 => k_is)
    (case c26 => k_is)
    (case k26 => k_is)
    (case z_ValueError => k_is)
    (case z_abs => k_is)
    (case z_all => k_is)
    (case z_bool => k_is)
    (case z_enumerate => k_is)
    (case z_int => k_is)
    (case z_isinstance => k_is)
    (case z_len => k_is)
    (case z_list => k_is)
    (case z_max => k_is)
    (case z_min => k_is)
    (case z_range => k_is)
    (case z_str => k_is)
    (case z_sum => k_is)
    (case z_tuple => k_is)
    (case z_zip => k_is)
#print axioms PySem.Challenge.cw_fewnotes_k64_texts_of_no_record_holds
