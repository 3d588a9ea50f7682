import PyProof.Rows.All
import Wide.All
import OpenK.AllK
import Wide.FinOn
import Lean
import PyProof.EqAt
import PyProof.EqKinds
import PyProof.TupleCall
import PyProof.EqLayable
import PyProof.ExcArgsOwn
import PyProof.ExcAttrAll.Exception
import PyProof.RulesAs
import PyProof.ExcBaseAll.ValueError
import PyProof.NsDelKeeps
import KE.KRevSl
import OpenK.KOps
import OpenK.KWalk
import PyProof.TupleIter
import PyProof.ZipIter
import PySem.Challenge.RW_fewnotes_k18_webs_of_runs
set_option Elab.async false
set_option linter.all false
set_option maxRecDepth 100000
/-! THE HAND LAYER, for ints, bools, texts, own classes, LISTS and tuples (index, slices, in, append, pop ..), calls, loops. Paste it whole ahead of your own text; what your proof does not reach may be deleted. -/
namespace L2
open PySem PySem.Spec PyProof.Rows

/-- a key: an int or a str -/
abbrev Key := Sum Int Str
def keyIs : Key → Value → Bool
  | .inl k, v => Value.isInt k v
  | .inr x, v => Value.isStrOf x v
def keyH (w : World) : Key → Int
  | .inl k => hashInt k
  | .inr x => hashStr w x
theorem keyIs_shape : ∀ {k : Key} {v : Value}, keyIs k v = true → (∃ i t, k = Sum.inl i ∧ v = Value.int i t) ∨ (∃ x t, k = Sum.inr x ∧ v = Value.str x t)
  | .inl i, v, h => by
    obtain ⟨t, e⟩ := Value.isInt_shape (k := i) (v := v) h
    exact .inl ⟨i, t, rfl, e⟩
  | .inr x, v, h => by
    obtain ⟨t, e⟩ := Value.isStrOf_shape (x := x) (v := v) h
    exact .inr ⟨x, t, rfl, e⟩
theorem key_ll (a b : Int) : decide ((Sum.inl a : Key) = Sum.inl b) = (a == b) := by
  by_cases e : a = b
  · subst e; simp
  · have h : ¬ (Sum.inl a : Key) = Sum.inl b := fun q => e (Sum.inl.inj q)
    rw [decide_eq_false h]
    exact (beq_eq_false_iff_ne.mpr e).symm
theorem key_rr (a b : Str) : decide ((Sum.inr a : Key) = Sum.inr b) = decide (a = b) := by
  by_cases e : a = b
  · subst e; simp
  · have h : ¬ (Sum.inr a : Key) = Sum.inr b := fun q => e (Sum.inr.inj q)
    rw [decide_eq_false h, decide_eq_false e]
theorem key_lr (a : Int) (b : Str) : decide ((Sum.inl a : Key) = Sum.inr b) = false := decide_eq_false (fun q => nomatch q)
theorem key_rl (a : Str) (b : Int) : decide ((Sum.inr a : Key) = Sum.inl b) = false := decide_eq_false (fun q => nomatch q)

def mixKind (prog : Program) (w : World) : PySem.KeyKind prog w Key where
  is := keyIs
  hash := keyH w
  inj := fun v a b ha hb => by
    rcases keyIs_shape ha with ⟨i, t, rfl, rfl⟩ | ⟨x, t, rfl, rfl⟩
    · rcases keyIs_shape hb with ⟨j, u, rfl, e⟩ | ⟨y, u, rfl, e⟩
      · injection e with e1 _; rw [e1]
      · exact nomatch e
    · rcases keyIs_shape hb with ⟨j, u, rfl, e⟩ | ⟨y, u, rfl, e⟩
      · exact nomatch e
      · injection e with e1 _; rw [e1]
  byValue := fun k v h => by
    rcases keyIs_shape h with ⟨i, t, rfl, rfl⟩ | ⟨x, t, rfl, rfl⟩ <;> rfl
  pyHash := fun hv h => by
    rcases keyIs_shape hv with ⟨i, t, rfl, rfl⟩ | ⟨x, t, rfl, rfl⟩
    · exact wpAny_pyHash_int h
    · exact wpAny_pyHash_str h
  eqBool := fun hu hv h => by
    rcases keyIs_shape hu with ⟨i, t, rfl, rfl⟩ | ⟨x, t, rfl, rfl⟩
    · rcases keyIs_shape hv with ⟨j, u, rfl, rfl⟩ | ⟨y, u, rfl, rfl⟩
      · rw [key_ll] at h; exact wpAny_eqBool_int h
      · rw [key_lr] at h; exact SeqAt.EqAt.int_str i t y u _ _ _ _ h
    · rcases keyIs_shape hv with ⟨j, u, rfl, rfl⟩ | ⟨y, u, rfl, rfl⟩
      · rw [key_rl] at h; exact SeqAt.EqAt.str_int x t j u _ _ _ _ h
      · rw [key_rr] at h; exact wpAny_eqBool_str h
  «strs» := fun k x t v h => by
    rcases keyIs_shape h with ⟨i, u, rfl, e⟩ | ⟨y, u, rfl, e⟩
    · exact nomatch e
    · injection e with e1 _
      subst e1
      cases v <;> rfl

end L2

namespace L2
open PySem PySem.Spec PyProof.Rows

/-- a value, without the heap -/
inductive V where
  | non | bl (b : Bool) | int (i : Int) | str (x : Str) | byt (b : Array UInt8) | flt (b : UInt64) | ref (a : Addr) | ty (n : String)
  deriving DecidableEq

def RelV : V → Value → Prop
  | .non, u => u = Value.none
  | .bl b, u => u = Value.bool b
  | .int i, u => ∃ t, u = Value.int i t
  | .str x, u => ∃ t, u = Value.str x t
  | .byt b, u => ∃ t, u = Value.bytes b t
  | .flt b, u => ∃ t, u = Value.float b t
  | .ref a, u => u = Value.ref a
  | .ty n, u => u = Value.type n

abbrev Vals : List V → List Value → Prop := Paired RelV
theorem Vals.length {xs : List V} {us : List Value} (r : Vals xs us) : xs.length = us.length := Paired.length r
theorem Vals.get : ∀ {xs : List V} {us : List Value} {i : Nat} {x : V}, Vals xs us → xs[i]? = some x → ∃ u, us[i]? = some u ∧ RelV x u
  | _, _, _, _, .nil, e => by simp at e
  | _, _, 0, _, .cons r _, e => by simp at e; subst e; exact ⟨_, rfl, r⟩
  | _, _, i + 1, x, .cons _ t, e => by
    obtain ⟨u, h1, h2⟩ := Vals.get (i := i) (x := x) t (by simpa using e)
    exact ⟨u, by simpa using h1, h2⟩
theorem Vals.set {x : V} {u : Value} (r : RelV x u) : ∀ {xs : List V} {us : List Value} (i : Nat), Vals xs us → Vals (xs.set i x) (us.set i u)
  | _, _, _, .nil => .nil
  | _, _, 0, .cons _ t => .cons r t
  | _, _, i + 1, .cons q t => .cons q (Vals.set r i t)
theorem Vals.append {xs ys : List V} {us ws : List Value} (h : Vals xs us) (s : Vals ys ws) : Vals (xs ++ ys) (us ++ ws) := by
  induction h with
  | nil => exact s
  | cons r t ih => exact .cons r ih
theorem Vals.take : ∀ {xs : List V} {us : List Value} (n : Nat), Vals xs us → Vals (xs.take n) (us.take n)
  | _, _, 0, _ => .nil
  | _, _, _ + 1, .nil => .nil
  | _, _, n + 1, .cons r t => .cons r (Vals.take n t)
theorem Vals.drop : ∀ {xs : List V} {us : List Value} (n : Nat), Vals xs us → Vals (xs.drop n) (us.drop n)
  | _, _, 0, r => r
  | _, _, _ + 1, .nil => .nil
  | _, _, n + 1, .cons _ t => Vals.drop n t
def RelO : Option V → Option Value → Prop
  | some v, some u => RelV v u
  | none, none => True
  | _, _ => False
def KV {κ : Type} : List (κ × V) → List (κ × Value) → Prop := Paired fun (p : κ × V) (q : κ × Value) => p.1 = q.1 ∧ RelV p.2 q.2

/-- a key of a dict (00_mix): an int or a text -/
def kV : Key → V
  | .inl i => .int i
  | .inr x => .str x

/-- what stands at a tracked address -/
inductive HO where
  /-- a list -/
  | lst (xs : List V)
  /-- a tuple (never changes) -/
  | tup (xs : List V)
  /-- a dict whose keys are ints and texts; one whose keys are tuples of ints and texts (the empty one is both) -/
  | dK (kvs : List (Key × V)) | dT (kvs : List (List Key × V))
  /-- a set of ints: its members, its size -/
  | set (S : Int → Bool) (n : Nat)
  /-- an instance of the class at C, its dict at dx, its attributes -/
  | ins (C dx : Addr) (fs : List (Str × V))
  /-- the dict of the instance at x -/
  | own (x : Addr)
  /-- the dict of an exception -/
  | xd (fs : List (Str × V))
  /-- a bound method, f of x -/
  | met (f x : Addr)
  /-- a range object lo, lo + 1, .. below hi -/
  | rng (lo hi : Int)
  /-- a thing that is known to the object (the script; a dict while a loop walks it): read, never written while it is so -/
  | frz (o : Obj) (u : HO)
  /-- a code object's table -/
  | tbl (ps : Array Value)
  /-- any other thing, by what is true of its one object (a def of one's own: SetO a S n := HO.ext fun h => ..) -/
  | ext (φ : Heap → Prop)

abbrev Hp := Addr → Option HO
def upd (H : Hp) (a : Addr) (o : HO) : Hp := fun b => if b = a then some o else H b
theorem upd_same {H : Hp} {a : Addr} {o : HO} : upd H a o a = some o := by unfold upd; rw [if_pos rfl]
theorem upd_ne {H : Hp} {a b : Addr} {o : HO} (h : b ≠ a) : upd H a o b = H b := by unfold upd; rw [if_neg h]
theorem upd_upd {H : Hp} {a : Addr} {o u : HO} : upd (upd H a o) a u = upd H a u := by
  funext b; unfold upd; split <;> rfl
/-- two objects of different content stand apart -/
theorem ne_of {H : Hp} {a b : Addr} {o u : HO} (h : H a = some o) (h' : H b = some u) (d : o ≠ u) : a ≠ b := by
  intro e; subst e; rw [h] at h'; exact d (Option.some.inj h')
theorem ne_of_none {H : Hp} {a b : Addr} {o : HO} (h : H a = some o) (h' : H b = none) : a ≠ b := by
  intro e; subst e; rw [h] at h'; cases h'

section
variable (P : Program) (w : World)
def ObjOk (H : Hp) (h : Heap) (a : Addr) : HO → Prop
  | .lst xs => xs.length ≤ sizeLine ∧ ∃ (its : List Value) (n : Nat), Vals xs its ∧ h.get? a = some { cls := .type "list", data := .seq its.toArray n }
  | .tup xs => xs.length ≤ sizeLine ∧ ∃ its : List Value, Vals xs its ∧ IsTup h a its.toArray
  | .dK kvs => kvs.length ≤ sizeLine ∧ (a == sysModules) = false ∧ ∃ vs, KV kvs vs ∧ h.DictOf (mixKind P w) a vs
  | .dT kvs => kvs.length ≤ sizeLine ∧ (a == sysModules) = false ∧ ∃ xs : List (List Key × Addr × Value),
      Paired (fun (p : List Key × V) (q : List Key × Addr × Value) => p.1 = q.1 ∧ H q.2.1 = some (.tup (p.1.map kV)) ∧ RelV p.2 q.2.2) kvs xs ∧
      ∃ o es ep, h.get? a = some o ∧ o.ExactDict ∧ o.data = .dict es ep ∧ es.toList = xs.map (entryOfKey (tupleKind (mixKind P w))) ∧ (xs.map (·.1)).Nodup
  | .set S n => h.SetOf (intKind P w) a S n
  | .ins C dx fs => H dx = some (.own a) ∧ fs.length ≤ 1000 ∧ dx ≠ a ∧ h.get? a = some (PySem.W.instObj C dx) ∧
      ∃ mA, h.Ns1 dx mA ∧ (∀ f, RelO (fs.lookup f) (mA f)) ∧ PySem.Within mA (fs.map (·.1))
  | .own _ => ∃ o, h.get? a = some o
  | .xd fs => ∃ mA, h.Ns1 a mA ∧ ∀ f, RelO (fs.lookup f) (mA f)
  | .rng lo hi => ∃ t u v, h.get? a = some { cls := .type "range", data := .fields #[.int lo t, .int hi u, .int 1 v] }
  | .frz o u => h.get? a = some o ∧ ObjOk H h a u
  | .tbl ps => h.get? a = some { cls := .none, data := .fields ps }
  | .met f x => h.get? a = some (PySem.W.methodObj (.ref f) (.ref x))
  | .ext φ => φ h ∧ (∃ o, h.get? a = some o) ∧ ∀ h1 h2 : Heap, φ h1 → (∀ o, h1.get? a = some o → h2.get? a = some o) → φ h2
/-- the abstract heap is held -/
def HOk (H : Hp) (h : Heap) : Prop := ∀ a o, H a = some o → ObjOk P w H h a o
end

section
variable {P : Program} {w : World} {H H' : Hp} {h h' : Heap} {a : Addr} {o : HO}
theorem ObjOk.lt (x : ObjOk P w H h a o) : a < h.objs.size := by
  cases o with
  | lst xs => obtain ⟨_, _, _, _, e⟩ := x; exact Heap.lt_size e
  | tup xs => obtain ⟨_, _, _, p⟩ := x; exact p.lt
  | dK kvs => obtain ⟨_, _, _, _, o, _, _, e, _⟩ := x; exact Heap.lt_size e
  | dT kvs => obtain ⟨_, _, _, _, o, _, _, e, _⟩ := x; exact Heap.lt_size e
  | set S n => obtain ⟨o, _, _, _, e, _⟩ := x; exact Heap.lt_size e
  | ins C dx fs => obtain ⟨_, _, _, e, _⟩ := x; exact Heap.lt_size e
  | own y => obtain ⟨_, e⟩ := x; exact Heap.lt_size e
  | xd fs => obtain ⟨_, ⟨_, _, _, e, _⟩, _⟩ := x; exact Heap.lt_size e
  | rng lo hi => obtain ⟨_, _, _, e⟩ := x; exact Heap.lt_size e
  | frz ob u => obtain ⟨e, _⟩ := x; exact Heap.lt_size e
  | tbl ps => exact Heap.lt_size (show h.get? a = some _ from x)
  | met f y => exact Heap.lt_size (show h.get? a = some _ from x)
  | ext φ => obtain ⟨_, ⟨_, e⟩, _⟩ := x; exact Heap.lt_size e
theorem Paired.mapP {α β : Type} {F G : α → β → Prop} : ∀ {l₁ : List α} {l₂ : List β}, Paired F l₁ l₂ → (∀ a b, F a b → G a b) → Paired G l₁ l₂
  := by
  intro l₁ l₂ h f
  induction h with
  | nil => exact .nil
  | cons r t ih => exact .cons (f _ _ r) ih
/-- what an object's description leans on: its own object, its own dict, the tuples -/
theorem ObjOk.stay (x : ObjOk P w H h a o) (k : ∀ b u, (b = a ∨ H b = some (.own a)) → h.get? b = some u → h'.get? b = some u)
    (ho : ∀ b, H b = some (.own a) → H' b = some (.own a)) (ht : ∀ b xs, H b = some (.tup xs) → H' b = some (.tup xs)) : ObjOk P w H' h' a o := by
  induction o with
  | lst xs => obtain ⟨z, its, n, r, e⟩ := x; exact ⟨z, its, n, r, k _ _ (.inl rfl) e⟩
  | tup xs => obtain ⟨z, its, r, ob, e, c⟩ := x; exact ⟨z, its, r, ob, k _ _ (.inl rfl) e, c⟩
  | dK kvs => obtain ⟨z, y, vs, r, ob, es, ep, e, c⟩ := x; exact ⟨z, y, vs, r, ob, es, ep, k _ _ (.inl rfl) e, c⟩
  | dT kvs =>
    obtain ⟨z, y, xs, r, ob, es, ep, e, c⟩ := x
    exact ⟨z, y, xs, Paired.mapP r fun p q z => ⟨z.1, ht _ _ z.2.1, z.2.2⟩, ob, es, ep, k _ _ (.inl rfl) e, c⟩
  | set S n => obtain ⟨ob, es, ep, t, e, c⟩ := x; exact ⟨ob, es, ep, t, k _ _ (.inl rfl) e, c⟩
  | ins C dx fs =>
    obtain ⟨d, z, ne, e, mA, ⟨od, es, ep, e2, c⟩, r⟩ := x
    exact ⟨ho _ d, z, ne, k _ _ (.inl rfl) e, mA, ⟨od, es, ep, k _ _ (.inr d) e2, c⟩, r⟩
  | own y => obtain ⟨ob, e⟩ := x; exact ⟨ob, k _ _ (.inl rfl) e⟩
  | xd fs => obtain ⟨mA, ⟨od, es, ep, e, c⟩, r⟩ := x; exact ⟨mA, ⟨od, es, ep, k _ _ (.inl rfl) e, c⟩, r⟩
  | rng lo hi => obtain ⟨t, u, v, e⟩ := x; exact ⟨t, u, v, k _ _ (.inl rfl) e⟩
  | frz ob u ih => obtain ⟨e, q⟩ := x; exact ⟨k _ _ (.inl rfl) e, ih q⟩
  | tbl ps =>
    have e : h.get? a = some { cls := .none, data := .fields ps } := x
    show h'.get? a = some { cls := .none, data := .fields ps }
    exact k a _ (.inl rfl) e
  | met f y =>
    have e : h.get? a = some (PySem.W.methodObj (.ref f) (.ref y)) := x
    show h'.get? a = some (PySem.W.methodObj (.ref f) (.ref y))
    exact k a _ (.inl rfl) e
  | ext φ => obtain ⟨p, ⟨o, e⟩, st⟩ := x; exact ⟨st _ _ p fun o q => k _ _ (.inl rfl) q, ⟨o, k _ _ (.inl rfl) e⟩, st⟩
theorem HOk.lt (x : HOk P w H h) (e : H a = some o) : a < h.objs.size := (x a o e).lt
theorem HOk.fresh (x : HOk P w H h) (e : h.objs.size ≤ a) : H a = none := by
  cases q : H a with
  | none => rfl
  | some u => exact absurd (Nat.lt_of_lt_of_le (x.lt q) e) (Nat.lt_irrefl _)
/-- every object of the heap is kept -/
theorem HOk.kept (x : HOk P w H h) (k : ∀ b u, h.get? b = some u → h'.get? b = some u) : HOk P w H h' := fun a o e =>
  (x a o e).stay (fun b u _ q => k b u q) (fun _ q => q) fun _ _ q => q
/-- a new object is laid and tracked -/
theorem HOk.laid (x : HOk P w H h) (k : ∀ b u, h.get? b = some u → h'.get? b = some u) (hp : h.objs.size ≤ a) (new : ObjOk P w (upd H a o) h' a o) : HOk P w (upd H a o) h' := fun b u e => by
  have hn := x.fresh hp
  by_cases hb : b = a
  · subst hb; rw [upd_same] at e; cases e; exact new
  · rw [upd_ne hb] at e
    exact (x b u e).stay (fun c v _ q => k c v q) (fun c q => by rw [upd_ne (ne_of_none q hn)]; exact q) fun c xs q => by rw [upd_ne (ne_of_none q hn)]; exact q
end

/-- what may be read as u: it is u, or a known u -/
def Rd (H : Hp) (a : Addr) (u : HO) : Prop := H a = some u ∨ ∃ o, H a = some (.frz o u)
theorem Rd.ok {P : Program} {w : World} {H : Hp} {h : Heap} {a : Addr} {u : HO} (r : Rd H a u) (x : HOk P w H h) : ObjOk P w H h a u := by
  rcases r with r | ⟨o, r⟩
  · exact x a u r
  · obtain ⟨_, q⟩ := x a _ r
    exact q
/-- what may be written -/
def Mut : Option HO → Prop
  | some (.lst _) => True
  | some (.dK _) => True
  | some (.dT _) => True
  | some (.set _ _) => True
  | some (.ins _ _ _) => True
  | some (.ext _) => True
  | _ => False
section
variable {P : Program} {w : World} {H : Hp} {h h' : Heap} {x e : Addr} {o' : HO}
/-- the object at e is changed: x itself, or the dict of the instance x -/
theorem HOk.write (ok : HOk P w H h) (mu : Mut (H x)) (he : e = x ∨ H e = some (.own x)) (k : ∀ b u, b ≠ e → h.get? b = some u → h'.get? b = some u) (heo : ∃ u, h'.get? e = some u)
    (new : ObjOk P w (upd H x o') h' x o') : HOk P w (upd H x o') h' := fun b u q => by
  have nown : ∀ c y, H c = some (.own y) → c ≠ x := fun c y r z => by subst z; rw [r] at mu; exact mu
  have ntup : ∀ c xs, H c = some (.tup xs) → c ≠ x := fun c xs r z => by subst z; rw [r] at mu; exact mu
  by_cases hb : b = x
  · subst hb; rw [upd_same] at q; cases q; exact new
  · rw [upd_ne hb] at q
    by_cases hbe : b = e
    · have q' : H b = some (.own x) := by
        rcases he with z | z
        · exact absurd (hbe.trans z) hb
        · rw [hbe]; exact z
      rw [q] at q'; cases q'
      obtain ⟨v, hv⟩ := heo
      exact ⟨v, by rw [hbe]; exact hv⟩
    · refine (ok b u q).stay (fun c v hc r => k c v ?_ r) (fun c r => by rw [upd_ne (nown c b r)]; exact r) fun c xs r => by rw [upd_ne (ntup c xs r)]; exact r
      rcases hc with rfl | hc
      · exact hbe
      · rintro rfl
        rcases he with z | z
        · exact nown c b hc z
        · rw [hc] at z; cases z; exact hb rfl
end

/-! ### kept unless tracked; of the frames at fs (the callers') the slots may change (an exception that passes writes there); of the records at ex (iterators) nothing is said -/
structure Un (fs ex : List Addr) (H H' : Hp) (h h' : Heap) : Prop where
  keep : ∀ b o, h.get? b = some o → H b = none → b ∉ fs → b ∉ ex → h'.get? b = some o
  slot : ∀ b o, h.get? b = some o → H b = none → b ∈ fs → b ∉ ex → ∃ sl, h'.get? b = some { o with slots := sl }
  free : ∀ b o, h.get? b = some o → H b = none → b ∉ ex → H' b = none
  there : ∀ b o, h.get? b = some o → b ∉ ex → ∃ o', h'.get? b = some o'
  tups : ∀ b xs, H b = some (.tup xs) → H' b = some (.tup xs)
  frzs : ∀ b o u, H b = some (.frz o u) → H' b = some (.frz o u)
  tbls : ∀ b ps, H b = some (.tbl ps) → ∃ more, H' b = some (.tbl (ps ++ more))
section
variable {fs fs' ex ex' : List Addr} {H H1 H2 : Hp} {h h1 h2 h' : Heap} {a x e : Addr} {o : HO}
theorem Un.any (u : Un fs ex H H1 h h1) {b : Addr} {ob : Obj} (q : h.get? b = some ob) (n : H b = none) (hx : b ∉ ex) : ∃ sl, h1.get? b = some { ob with slots := sl } := by
  by_cases hb : b ∈ fs
  · exact u.slot b ob q n hb hx
  · exact ⟨ob.slots, u.keep b ob q n hb hx⟩
theorem Un.kept (k : ∀ b u, h.get? b = some u → h'.get? b = some u) : Un fs ex H H h h' :=
  ⟨fun b ob q _ _ _ => k b ob q, fun b ob q _ _ _ => ⟨ob.slots, k b ob q⟩, fun _ _ _ n _ => n, fun b ob q _ => ⟨ob, k b ob q⟩, fun _ _ q => q, fun _ _ _ q => q, fun _ ps q => ⟨#[], by rw [q]; simp⟩⟩
theorem Un.refl : Un fs ex H H h h := Un.kept fun _ _ q => q
theorem Un.laid (k : ∀ b u, h.get? b = some u → h'.get? b = some u) (hp : h.objs.size ≤ a) (hn : H a = none) : Un fs ex H (upd H a o) h h' where
  keep := fun b u q _ _ _ => k b u q
  slot := fun b u q _ _ _ => ⟨u.slots, k b u q⟩
  free := fun b u q n _ => by rw [upd_ne (Nat.ne_of_lt (Nat.lt_of_lt_of_le (Heap.lt_size q) hp))]; exact n
  there := fun b u q _ => ⟨u, k b u q⟩
  tups := fun b xs q => by rw [upd_ne (ne_of_none q hn)]; exact q
  frzs := fun b u xs q => by rw [upd_ne (ne_of_none q hn)]; exact q
  tbls := fun b ps q => ⟨#[], by rw [upd_ne (ne_of_none q hn), q]; simp⟩
theorem Un.write (mu : Mut (H x)) (he : e = x ∨ H e = some (.own x)) (k : ∀ b u, b ≠ e → h.get? b = some u → h'.get? b = some u) (heo : ∃ u, h'.get? e = some u) : Un fs ex H (upd H x o) h h' := by
  have hx : ∀ b, H b = none → b ≠ x := fun b n z => by subst z; rw [n] at mu; exact mu
  have hb : ∀ b, H b = none → b ≠ e := fun b n z => by
    subst z
    rcases he with r | r
    · exact hx b n r
    · rw [n] at r; cases r
  have hm : ∀ b u, H b = some u → ¬ Mut (some u) → b ≠ x := fun b u q nm z => by subst z; rw [q] at mu; exact nm mu
  refine ⟨fun b u q n _ _ => k b u (hb b n) q, fun b u q n _ _ => ⟨u.slots, k b u (hb b n) q⟩, fun b u q n _ => by rw [upd_ne (hx b n)]; exact n, fun b u q _ => ?_,
    fun b xs q => by rw [upd_ne (hm b _ q fun z => z)]; exact q, fun b u xs q => by rw [upd_ne (hm b _ q fun z => z)]; exact q, fun b ps q => ⟨#[], by rw [upd_ne (hm b _ q fun z => z), q]; simp⟩⟩
  by_cases hbe : b = e
  · subst hbe; exact heo
  · exact ⟨u, k b u hbe q⟩
end

/-! ### the heap without what is tracked -/
def trk (h : Heap) (H : Hp) : List Addr := (List.range h.objs.size).filter fun a => (H a).isSome
def hidT (h : Heap) (H : Hp) : Heap := PySem.W.hideAll h (trk h H)
theorem hidT_size (h : Heap) (H : Hp) : (hidT h H).objs.size = h.objs.size := PySem.W.hideAll_size _ _
theorem hidT_get {h : Heap} {H : Hp} {b : Addr} {o : Obj} (e : h.get? b = some o) (n : H b = none) : (hidT h H).get? b = some o :=
  PySem.W.hideAll_get _ e fun hm => by
    have q : (H b).isSome = true := (List.mem_filter.mp hm).2
    rw [n] at q; simp at q
theorem of_hidT {h : Heap} {H : Hp} {b : Addr} {o : Obj} (e : (hidT h H).get? b = some o) : h.get? b = some o ∧ H b = none := by
  have e' : h.get? b = some o := PySem.W.of_hideAll (trk h H) e
  refine ⟨e', ?_⟩
  cases q : H b with
  | none => rfl
  | some x =>
    have hm : b ∈ trk h H := List.mem_filter.mpr ⟨List.mem_range.mpr (Heap.lt_size e'), by simp [q]⟩
    have z : (hidT h H).get? b = none := PySem.W.hideAll_none (trk h H) hm
    rw [z] at e; cases e

/-! ### OpenK's ledger, filled with every new object but one -/
def allNews (g h : Heap) (L : Addr) : List (Addr × Obj) := (List.range h.objs.size).filterMap fun a => if a = L ∨ (g.get? a).isSome = true then none else (h.get? a).map fun o => (a, o)
def rest (g h : Heap) (L d : Addr) : List (Addr × Obj) := (allNews g h L).filter fun p => decide (p.1 ≠ d)
end L2

namespace L2
open PySem PySem.Spec PyProof.Rows

/-- the module's facts, over the base: the heap at the law's entry without what is tracked there -/
structure Mod (K : PySem.W.Frag) (mg : Str → Option Value) (base : Heap) : Prop where
  kin : K.In base
  glob : base.Ns mainGlobals mg
  blt : ∃ mb, base.Ns builtinsNs mb ∧ ∀ x : Str, x ≠ "__name__" → mb x = bootBuiltins x
  nolimit : base.NoLimit

/-- the context: a def's body (or a comprehension's block) running. base: fixed through the whole law; s₀, H₀: the entry; outer: the frames whose slots others may change (a def's callers); stack: all frames that run;
   ex: iterators that were made ahead of the entry and are walked here (a comprehension's); fn: the names whose cells were made at the entry (a def: all; a comprehension's block: its own); calm: not within an except suite; pn: pins that every state bears; xe: what is wanted of an exception that leaves the code -/
structure Cx where
  prog : Program
  w : World
  K : PySem.W.Frag
  mg : Str → Option Value
  base : Heap
  A : Around
  N : List Str
  s₀ : Shared
  H₀ : Hp
  env : Env
  outer : List Env
  stack : List Env
  ex : List Addr
  fn : Str → Bool
  calm : Bool
  pn : List (Addr × Obj)
  xe : Value → Shared → Prop
/-- the callers' frames -/
def frs (l : List Env) : List Addr := l.filterMap (·.frame)
abbrev Cx.fs (X : Cx) : List Addr := frs X.outer

def Vis (sc : Scope) (x : Str) : Prop := sc.names.lookup x = some .local ∨ sc.names.lookup x = some .cell ∨ sc.names.lookup x = some .free
def Loc (sc : Scope) (x : Str) : Prop := sc.names.lookup x = some .local ∨ sc.names.lookup x = some .cell
def Look (env : Env) (h : Heap) (m : Str → Option Value) (x : Str) (u : Value) : Prop :=
  (env.kindOf x = some .local ∧ m x = some u) ∨ ((env.kindOf x = some .cell ∨ env.kindOf x = some .free) ∧ ∃ c, env.cells.lookup x = some c ∧ h.IsCell c (some u))

structure Cx.Ok (X : Cx) : Prop where
  mod : Mod X.K X.mg X.base
  kind : X.env.scope.kind = .function
  glob : X.env.globals = mainGlobals
  blt : X.env.builtins = builtinsNs
  above : X.s₀.heap.objs.size ≤ X.env.locals
  inj : ∀ x y c, X.env.cells.lookup x = some c → X.env.cells.lookup y = some c → x = y
  has : ∀ x, (X.env.kindOf x = some .cell ∨ X.env.kindOf x = some .free) → ∃ c, X.env.cells.lookup x = some c
  cab : ∀ x c, X.fn x = true → X.env.cells.lookup x = some c → X.s₀.heap.objs.size ≤ c
  hd : X.calm = true → X.A.handled = none
  frames : X.A.frames = some X.stack
  stk : X.stack = X.outer ∨ (X.stack = X.env :: X.outer ∧ X.env.frame = some X.env.locals)
  exf : ∀ b ∈ X.ex, b ≠ X.env.locals ∧ ∀ x c, X.env.cells.lookup x = some c → c ≠ b
  bs : ∀ b o, X.base.get? b = some o → X.s₀.heap.get? b = some o ∧ X.H₀ b = none
  bsz : X.base.objs.size ≤ X.s₀.heap.objs.size
  noex : ∀ b o, X.base.get? b = some o → b ∉ X.ex
  exfs : ∀ b ∈ X.ex, b ∉ X.fs
  funs : X.s₀.heap.FunFrames X.base X.outer
  frf : ∀ b ∈ X.fs, X.H₀ b = none

structure Inv (X : Cx) (pins : List (Addr × Obj)) (σ : List (Option V)) (H : Hp) (s : Shared) : Prop where
  ok : X.Ok
  os : s.os = X.s₀.os
  bare : AllBare s.gens
  base : Un X.fs X.ex X.H₀ H X.s₀.heap s.heap
  loc : ∃ m, s.heap.Ns X.env.locals m ∧ ∀ (i : Nat) (x : Str) (v : V), X.N[i]? = some x → σ[i]? = some (some v) → Vis X.env.scope x → ∃ u, RelV v u ∧ Look X.env s.heap m x u
  cell : ∀ x c, X.env.cells.lookup x = some c → ∃ v, s.heap.IsCell c v
  free : H X.env.locals = none
  freeC : ∀ x c, X.env.cells.lookup x = some c → H c = none
  pin : ∀ p ∈ X.pn ++ pins, s.heap.get? p.1 = some p.2 ∧ H p.1 = none ∧ p.1 ≠ X.env.locals ∧ p.1 ∉ X.fs ∧ ∀ v, p.2.data ≠ .cell v
  hok : HOk X.prog X.w H s.heap
  len : σ.length = X.N.length

section
variable {X : Cx} {pins : List (Addr × Obj)} {σ : List (Option V)} {H H' : Hp} {s : Shared} {h' : Heap}

theorem Cx.Ok.nofr (ok : X.Ok) {b : Addr} {o : Obj} (e : X.base.get? b = some o) : b ∉ X.fs := fun hb => by
  have := (ok.funs.mem hb).1
  rw [e] at this; cases this
theorem Inv.bs (I : Inv X pins σ H s) : ∀ b o, X.base.get? b = some o → s.heap.get? b = some o ∧ H b = none := fun b o e =>
  ⟨I.base.keep b o (I.ok.bs b o e).1 (I.ok.bs b o e).2 (I.ok.nofr e) (I.ok.noex b o e), I.base.free b o (I.ok.bs b o e).1 (I.ok.bs b o e).2 (I.ok.noex b o e)⟩
theorem Inv.bk (I : Inv X pins σ H s) : ∀ b o, X.base.get? b = some o → s.heap.get? b = some o := fun b o e => (I.bs b o e).1
theorem Inv.mod (I : Inv X pins σ H s) : Mod X.K X.mg X.base := I.ok.mod
theorem Inv.kIn (I : Inv X pins σ H s) : X.K.In s.heap := I.ok.mod.kin.keeps I.bk
theorem Inv.lt (I : Inv X pins σ H s) : X.env.locals < s.heap.objs.size := let ⟨_, hn, _⟩ := I.loc; hn.lt
theorem Inv.sz (I : Inv X pins σ H s) : X.s₀.heap.objs.size ≤ s.heap.objs.size := Nat.le_trans I.ok.above (Nat.le_of_lt I.lt)
theorem Inv.nofs (I : Inv X pins σ H s) {a : Addr} (h : s.heap.objs.size ≤ a) : a ∉ X.fs := fun hb => by
  obtain ⟨_, o, ho, _⟩ := I.ok.funs.mem hb
  exact absurd (Nat.lt_of_lt_of_le (Heap.lt_size ho) (Nat.le_trans I.sz h)) (Nat.lt_irrefl _)
theorem Inv.cne (I : Inv X pins σ H s) : ∀ x c, X.env.cells.lookup x = some c → c ≠ X.env.locals := fun x c e z => by
  obtain ⟨v, o, ho, hd⟩ := I.cell x c e
  obtain ⟨m, ⟨o', es, ep, ho', hd', _⟩, _⟩ := I.loc
  rw [z, ho'] at ho; cases ho; rw [hd'] at hd; cases hd
theorem Inv.funs (I : Inv X pins σ H s) : s.heap.FunFrames X.base X.outer := by
  have all : ∀ (l : List Env), (∀ b ∈ frs l, b ∈ X.fs) → X.s₀.heap.FunFrames X.base l → s.heap.FunFrames X.base l := by
    intro l
    induction l with
    | nil => intro _ _; trivial
    | cons env r ih =>
      intro hs hl
      obtain ⟨hk, ⟨L, o, hf, hn, ho, hd⟩, hr⟩ := hl
      have hL : L ∈ X.fs := hs L (by unfold frs; rw [List.filterMap_cons, hf]; exact List.mem_cons_self)
      obtain ⟨sl, e⟩ := I.base.slot L o ho (I.ok.frf L hL) hL fun z => I.ok.exfs L z hL
      exact ⟨hk, ⟨L, _, hf, hn, e, hd⟩, ih (fun b hb => hs b (by unfold frs; rw [List.filterMap_cons, hf]; exact List.mem_cons_of_mem _ hb)) hr⟩
  exact all X.outer (fun _ hb => hb) I.ok.funs

/-- the frames that run, for a call -/
theorem Inv.stack (I : Inv X pins σ H s) : s.heap.FunFrames X.base X.stack := by
  rcases I.ok.stk with e | ⟨e, hf⟩
  · rw [e]; exact I.funs
  · rw [e]
    obtain ⟨m, hn, _⟩ := I.loc
    refine .cons (by rw [I.ok.kind]; decide) hf hn ?_ I.funs
    exact Heap.get?_none_of_le (Nat.le_trans I.ok.bsz I.ok.above)
theorem Inv.stkSub (I : Inv X pins σ H s) : ∀ b ∈ frs X.stack, b ∈ X.env.locals :: X.fs := fun b hb => by
  rcases I.ok.stk with e | ⟨e, hf⟩
  · rw [e] at hb; exact List.mem_cons_of_mem _ hb
  · rw [e] at hb
    unfold frs at hb
    rw [List.filterMap_cons, hf] at hb
    exact hb
theorem Inv.stkFree (I : Inv X pins σ H s) : ∀ b ∈ frs X.stack, H b = none := fun b hb => by
  rcases List.mem_cons.mp (I.stkSub b hb) with e | hb
  · rw [e]; exact I.free
  · obtain ⟨_, o, ho, _⟩ := I.ok.funs.mem hb
    exact I.base.free b o ho (I.ok.frf b hb) fun z => I.ok.exfs b z hb

/-- THE STEP: the untracked objects but the frame and the records at ch are kept (the callers' frames up to slots), the frame's map is kept, the new abstract heap is held -/
theorem Inv.step {g' : Array GenState} {t' : Nat} {d' : Drawn} {ch : List Addr} (I : Inv X pins σ H s)
    (hch : ∀ b ∈ ch, (b ∈ X.ex ∨ X.s₀.heap.objs.size ≤ b) ∧ b ≠ X.env.locals ∧ (∀ x c, X.env.cells.lookup x = some c → c ≠ b) ∧ ∀ p ∈ X.pn ++ pins, p.1 ≠ b)
    (keep : ∀ b o, b ≠ X.env.locals → b ∉ X.fs → b ∉ ch → s.heap.get? b = some o → H b = none → h'.get? b = some o)
    (slot : ∀ b o, b ≠ X.env.locals → b ∈ X.fs → b ∉ ch → s.heap.get? b = some o → H b = none → ∃ sl, h'.get? b = some { o with slots := sl }) (free : ∀ b o, b ∉ ch → s.heap.get? b = some o → H b = none → H' b = none)
    (there : ∀ b o, b ∉ ch → s.heap.get? b = some o → ∃ o', h'.get? b = some o')
    (tups : ∀ b xs, H b = some (.tup xs) → H' b = some (.tup xs)) (frzs : ∀ b o u, H b = some (.frz o u) → H' b = some (.frz o u)) (tbls : ∀ b ps, H b = some (.tbl ps) → ∃ more, H' b = some (.tbl (ps ++ more)))
    (ns : ∀ m, s.heap.Ns X.env.locals m → h'.Ns X.env.locals m) (hok : HOk X.prog X.w H' h') (hg : AllBare g') :
    Inv X pins σ H' { s with heap := h', gens := g', drawn := d', toks := t' } := by
  have neL : ∀ b o, X.s₀.heap.get? b = some o → b ≠ X.env.locals := fun b o e => Nat.ne_of_lt (Nat.lt_of_lt_of_le (Heap.lt_size e) I.ok.above)
  have neC : ∀ b o, X.s₀.heap.get? b = some o → b ∉ X.ex → b ∉ ch := fun b o e hx hb => by
    rcases (hch b hb).1 with z | z
    · exact hx z
    · exact absurd (Nat.lt_of_lt_of_le (Heap.lt_size e) z) (Nat.lt_irrefl _)
  have cellK : ∀ x c, X.env.cells.lookup x = some c → ∀ v, s.heap.IsCell c v → h'.IsCell c v := fun x c e v ⟨o, ho, hd⟩ => by
    have nch : c ∉ ch := fun z => (hch c z).2.2.1 x c e rfl
    by_cases hc : c ∈ X.fs
    · obtain ⟨sl, q⟩ := slot c o (I.cne x c e) hc nch ho (I.freeC x c e)
      exact ⟨_, q, hd⟩
    · exact ⟨o, keep c o (I.cne x c e) hc nch ho (I.freeC x c e), hd⟩
  refine ⟨I.ok, I.os, hg, ⟨fun b o e n hb hx => ?_, fun b o e n hb hx => ?_, fun b o e n hx => ?_, fun b o e hx => ?_, fun b xs e => tups b xs (I.base.tups b xs e), fun b o xs e => frzs b o xs (I.base.frzs b o xs e), fun b ps e => ?_⟩, ?_, fun x c e => ?_, ?_, fun x c e => ?_, fun p hp => ?_, hok, I.len⟩
  · exact keep b o (neL b o e) hb (neC b o e hx) (I.base.keep b o e n hb hx) (I.base.free b o e n hx)
  · obtain ⟨sl, e1⟩ := I.base.slot b o e n hb hx
    obtain ⟨sl', e2⟩ := slot b _ (neL b o e) hb (neC b o e hx) e1 (I.base.free b o e n hx)
    exact ⟨sl', e2⟩
  · obtain ⟨o', e1⟩ := I.base.there b o e hx
    exact free b o' (neC b o e hx) e1 (I.base.free b o e n hx)
  · obtain ⟨o', e1⟩ := I.base.there b o e hx
    exact there b o' (neC b o e hx) e1
  · obtain ⟨m1, e1⟩ := I.base.tbls b ps e
    obtain ⟨m2, e2⟩ := tbls b _ e1
    exact ⟨m1 ++ m2, by rw [e2, Array.append_assoc]⟩
  · obtain ⟨m, hn, hl⟩ := I.loc
    refine ⟨m, ns m hn, fun i x v e1 e2 e3 => ?_⟩
    obtain ⟨u, r, l⟩ := hl i x v e1 e2 e3
    refine ⟨u, r, ?_⟩
    rcases l with l | ⟨k, c, e, z⟩
    · exact .inl l
    · exact .inr ⟨k, c, e, cellK x c e _ z⟩
  · obtain ⟨v, z⟩ := I.cell x c e
    exact ⟨v, cellK x c e v z⟩
  · obtain ⟨m, ⟨o, _, _, ho, _⟩, _⟩ := I.loc
    exact free _ o (fun z => (hch _ z).2.1 rfl) ho I.free
  · obtain ⟨v, o, ho, hd⟩ := I.cell x c e
    exact free c o (fun z => (hch c z).2.2.1 x c e rfl) ho (I.freeC x c e)
  · obtain ⟨e, n, ne, nf, d⟩ := I.pin p hp
    have nch : p.1 ∉ ch := fun z => (hch p.1 z).2.2.2 p hp rfl
    exact ⟨keep p.1 p.2 ne nf nch e n, free p.1 p.2 nch e n, ne, nf, d⟩
/-- .. where the frame's own object is kept too -/
theorem Inv.un {t' : Nat} (I : Inv X pins σ H s) (u : Un X.fs [] H H' s.heap h') (hok : HOk X.prog X.w H' h') : Inv X pins σ H' { s with heap := h', toks := t' } := by
  obtain ⟨m, ⟨o, es, ep, ho, r⟩, _⟩ := id I.loc
  obtain ⟨sl, hL⟩ := u.any ho I.free (by simp)
  exact I.step (g' := s.gens) (d' := s.drawn) (ch := []) (fun _ z => nomatch z) (fun b o _ hb _ e n => u.keep b o e n hb (by simp)) (fun b o _ hb _ e n => u.slot b o e n hb (by simp)) (fun b o _ e n => u.free b o e n (by simp)) (fun b o _ e => u.there b o e (by simp)) u.tups u.frzs u.tbls (fun m' hm => by
    obtain ⟨o', es', ep', ho', r'⟩ := hm
    rw [ho] at ho'; cases ho'
    exact ⟨_, es', ep', hL, r'⟩) hok I.bare
/-- behind a call (or a comprehension's block): the slots of this frame may have changed too, the records at ch may have turned -/
theorem Inv.call {g' : Array GenState} {t' : Nat} {d' : Drawn} {ch : List Addr} (I : Inv X pins σ H s) (u : Un (frs X.stack) ch H H' s.heap h') (hok : HOk X.prog X.w H' h') (hg : AllBare g')
    (hch : ∀ b ∈ ch, (b ∈ X.ex ∨ X.s₀.heap.objs.size ≤ b) ∧ b ≠ X.env.locals ∧ (∀ x c, X.env.cells.lookup x = some c → c ≠ b) ∧ ∀ p ∈ X.pn ++ pins, p.1 ≠ b) :
    Inv X pins σ H' { s with heap := h', gens := g', drawn := d', toks := t' } := by
  obtain ⟨m, ⟨o, es, ep, ho, r⟩, _⟩ := id I.loc
  obtain ⟨sl, hL⟩ := u.any ho I.free fun z => (hch _ z).2.1 rfl
  exact I.step (ch := ch) hch (fun b o hL hb hc e n => u.keep b o e n (fun z => (List.mem_cons.mp (I.stkSub b z)).elim hL hb) hc) (fun b o _ _ hc e n => u.any e n hc) (fun b o hc e n => u.free b o e n hc) (fun b o hc e => u.there b o e hc) u.tups u.frzs u.tbls (fun m' hm => by
    obtain ⟨o', es', ep', ho', r'⟩ := hm
    rw [ho] at ho'; cases ho'
    exact ⟨_, es', ep', hL, r'⟩) hok hg
/-- an untracked record of ours (an iterator) has turned -/
theorem Inv.turned {t' : Nat} {it : Addr} (I : Inv X pins σ H s) (k : ∀ b o, b ≠ it → s.heap.get? b = some o → h'.get? b = some o) (hn : H it = none) (hL : it ≠ X.env.locals)
    (h1 : it ∈ X.ex ∨ X.s₀.heap.objs.size ≤ it) (h2 : ∀ x c, X.env.cells.lookup x = some c → c ≠ it) (h3 : ∀ p ∈ X.pn ++ pins, p.1 ≠ it) : Inv X pins σ H { s with heap := h', toks := t' } := by
  have nit : ∀ b u, H b = some u → b ≠ it := fun b u e z => by rw [z, hn] at e; cases e
  refine I.step (g' := s.gens) (d' := s.drawn) (ch := [it]) (fun b hb => ?_) (fun b o _ _ hc e _ => k b o (fun z => hc (by simp [z])) e) (fun b o _ _ hc e _ => ⟨o.slots, k b o (fun z => hc (by simp [z])) e⟩) (fun _ _ _ _ n => n)
    (fun b o hc e => ⟨o, k b o (fun z => hc (by simp [z])) e⟩) (fun _ _ e => e) (fun _ _ _ e => e) (fun b ps e => ⟨#[], by rw [e]; simp⟩) (fun m hm => ?_) (fun b u e => ?_) I.bare
  · have e : b = it := by simpa using hb
    subst e
    exact ⟨h1, hL, h2, h3⟩
  · obtain ⟨o, es, ep, ho, r⟩ := hm
    exact ⟨o, es, ep, k _ o (Ne.symm hL) ho, r⟩
  · refine (I.hok b u e).stay (fun c v hc q => k c v ?_ q) (fun _ q => q) fun _ _ q => q
    rcases hc with z | z
    · rw [z]; exact nit b u e
    · exact nit c _ z
theorem Inv.tok (I : Inv X pins σ H s) (t : Nat) : Inv X pins σ H { s with toks := t } := I.un (h' := s.heap) (t' := t) Un.refl I.hok
/-- all objects kept -/
theorem Inv.kept {t' : Nat} (I : Inv X pins σ H s) (k : ∀ b u, s.heap.get? b = some u → h'.get? b = some u) : Inv X pins σ H { s with heap := h', toks := t' } := I.un (Un.kept k) (I.hok.kept k)
/-- a new object laid and tracked -/
theorem Inv.laid {a : Addr} {o : HO} {t' : Nat} (I : Inv X pins σ H s) (k : ∀ b u, s.heap.get? b = some u → h'.get? b = some u) (hp : s.heap.objs.size ≤ a) (new : ObjOk X.prog X.w (upd H a o) h' a o) :
    Inv X pins σ (upd H a o) { s with heap := h', toks := t' } := I.un (Un.laid k hp (I.hok.fresh hp)) (I.hok.laid k hp new)
/-- an object written -/
theorem Inv.write {x e : Addr} {o : HO} {t' : Nat} (I : Inv X pins σ H s) (mu : Mut (H x)) (he : e = x ∨ H e = some (.own x)) (k : ∀ b u, b ≠ e → s.heap.get? b = some u → h'.get? b = some u) (heo : ∃ u, h'.get? e = some u)
    (new : ObjOk X.prog X.w (upd H x o) h' x o) : Inv X pins σ (upd H x o) { s with heap := h', toks := t' } := I.un (Un.write mu he k heo) (I.hok.write mu he k heo new)
theorem Inv.pins_of {pins' : List (Addr × Obj)} (I : Inv X pins σ H s) (h : ∀ p ∈ pins', s.heap.get? p.1 = some p.2 ∧ H p.1 = none ∧ p.1 ≠ X.env.locals ∧ p.1 ∉ X.fs ∧ ∀ v, p.2.data ≠ .cell v) : Inv X pins' σ H s :=
  ⟨I.ok, I.os, I.bare, I.base, I.loc, I.cell, I.free, I.freeC, fun p hp => (List.mem_append.mp hp).elim (fun z => I.pin p (List.mem_append_left _ z)) (h p), I.hok, I.len⟩

theorem nodup_ix {N : List Str} (hN : N.Nodup) {i j : Nat} {x : Str} (a : N[i]? = some x) (b : N[j]? = some x) : i = j := by
  obtain ⟨h1, e1⟩ := List.getElem?_eq_some_iff.mp a
  obtain ⟨h2, e2⟩ := List.getElem?_eq_some_iff.mp b
  exact (List.getElem_inj hN).mp (e1.trans e2.symm)

/-- a name is stored; what changed -/
theorem store_ok2 {M : Model} {A : Around} {E : Value → Shared → Prop} {i : Nat} {x : Str} {v : V} {u : Value} {Q : Unit → Shared → Prop} (I : Inv X pins σ H s) (hN : X.N.Nodup) (hi : X.N[i]? = some x) (hx : Loc X.env.scope x) (r : RelV v u)
    (h : ∀ s', Inv X pins (σ.set i (some v)) H s' → (∃ a, Heap.SameBut a s.heap s'.heap ∧ (a = X.env.locals ∨ X.env.cells.lookup x = some a)) → Q () s') (hf : X.fn x = true ∨ X.env.scope.names.lookup x = some .local := by first | exact .inl rfl | exact .inr rfl | assumption) : wpAny M A (storeName X.env x u) Q E s := by
  obtain ⟨m, hn, hl⟩ := id I.loc
  have hcls : (X.env.scope.kind == .class || (X.env.scope.kind == .module && X.env.locals != X.env.globals)) = false := by rw [I.ok.kind]; rfl
  have hiσ : i < σ.length := by rw [I.len]; exact (List.getElem?_eq_some_iff.mp hi).1
  have cne := I.cne
  have tracked : ∀ {a : Addr} {h' : Heap}, (∃ o, s.heap.get? a = some o ∧ H a = none) → Heap.SameBut a s.heap h' → HOk X.prog X.w H h' := fun {a h'} ha hs b ob e => by
    obtain ⟨_, _, hfree⟩ := ha
    refine (I.hok b ob e).stay (fun c w' hc q => (hs.2 c ?_).trans q) (fun _ q => q) fun _ _ q => q
    rintro rfl
    rcases hc with rfl | hc
    · rw [hfree] at e; cases e
    · rw [hfree] at hc; cases hc
  rcases hx with hk | hk
  · refine wpAny_storeName_local hk hn (fun h' hn' hs => ?_) hcls
    obtain ⟨oL, _, _, hoL, _⟩ := id hn
    refine h _ ⟨I.ok, I.os, I.bare, ⟨fun b o e n hb hx => ?_, fun b o e n hb hx => ?_, I.base.free, fun b o e hx => ?_, I.base.tups, I.base.frzs, I.base.tbls⟩, ⟨_, hn', fun j y v' e1 e2 e3 => ?_⟩, fun y c e => ?_, I.free, I.freeC, fun p hp => ?_, tracked ⟨oL, hoL, I.free⟩ hs, by simpa using I.len⟩ ⟨_, hs, .inl rfl⟩
    · exact (hs.2 b (Nat.ne_of_lt (Nat.lt_of_lt_of_le (Heap.lt_size e) I.ok.above))).trans (I.base.keep b o e n hb hx)
    · obtain ⟨sl, e1⟩ := I.base.slot b o e n hb hx
      exact ⟨sl, (hs.2 b (Nat.ne_of_lt (Nat.lt_of_lt_of_le (Heap.lt_size e) I.ok.above))).trans e1⟩
    · obtain ⟨o', e1⟩ := I.base.there b o e hx
      exact ⟨o', (hs.2 b (Nat.ne_of_lt (Nat.lt_of_lt_of_le (Heap.lt_size e) I.ok.above))).trans e1⟩
    · by_cases hj : j = i
      · subst hj
        rw [hi] at e1; cases e1
        rw [List.getElem?_set_self hiσ] at e2
        cases e2
        exact ⟨u, r, .inl ⟨hk, by simp⟩⟩
      · rw [List.getElem?_set_ne (Ne.symm hj)] at e2
        obtain ⟨u', r', q⟩ := hl j y v' e1 e2 e3
        refine ⟨u', r', ?_⟩
        rcases q with ⟨k, e⟩ | ⟨k, c, e, z⟩
        · refine .inl ⟨k, ?_⟩
          have : y ≠ x := fun e => hj (nodup_ix hN e1 (e ▸ hi))
          simp [this, e]
        · exact .inr ⟨k, c, e, z.sameBut hs (cne y c e)⟩
    · obtain ⟨w', z⟩ := I.cell y c e
      exact ⟨w', z.sameBut hs (cne y c e)⟩
    · obtain ⟨e, n, ne, nf, d⟩ := I.pin p hp
      exact ⟨(hs.2 p.1 ne).trans e, n, ne, nf, d⟩
  · have hfn : X.fn x = true := by
      rcases hf with z | z
      · exact z
      · rw [z] at hk; cases hk
    obtain ⟨c, hc⟩ := I.ok.has x (.inl hk)
    obtain ⟨w', z⟩ := I.cell x c hc
    refine wpAny_storeName_cell I.ok.kind hk hc z (fun h' hc' hs => ?_)
    obtain ⟨oc, hoc, hocd⟩ := id z
    refine h { s with heap := h' } ⟨I.ok, I.os, I.bare, ⟨fun b o e n hb hx => ?_, fun b o e n hb hx => ?_, I.base.free, fun b o e hx => ?_, I.base.tups, I.base.frzs, I.base.tbls⟩, ⟨m, hn.sameBut hs (Ne.symm (cne x c hc)), fun j y v' e1 e2 e3 => ?_⟩, fun y c' e => ?_, I.free, I.freeC, fun p hp => ?_, tracked ⟨oc, hoc, I.freeC x c hc⟩ hs, by simpa using I.len⟩ ⟨c, hs, .inr hc⟩
    · exact (hs.2 b (Nat.ne_of_lt (Nat.lt_of_lt_of_le (Heap.lt_size e) (I.ok.cab x c hfn hc)))).trans (I.base.keep b o e n hb hx)
    · obtain ⟨sl, e1⟩ := I.base.slot b o e n hb hx
      exact ⟨sl, (hs.2 b (Nat.ne_of_lt (Nat.lt_of_lt_of_le (Heap.lt_size e) (I.ok.cab x c hfn hc)))).trans e1⟩
    · obtain ⟨o', e1⟩ := I.base.there b o e hx
      exact ⟨o', (hs.2 b (Nat.ne_of_lt (Nat.lt_of_lt_of_le (Heap.lt_size e) (I.ok.cab x c hfn hc)))).trans e1⟩
    · by_cases hj : j = i
      · subst hj
        rw [hi] at e1; cases e1
        rw [List.getElem?_set_self hiσ] at e2
        cases e2
        exact ⟨u, r, .inr ⟨.inl hk, c, hc, hc'⟩⟩
      · rw [List.getElem?_set_ne (Ne.symm hj)] at e2
        obtain ⟨u', r', q⟩ := hl j y v' e1 e2 e3
        refine ⟨u', r', ?_⟩
        rcases q with q | ⟨k, c', e, z'⟩
        · exact .inl q
        · refine .inr ⟨k, c', e, z'.sameBut hs ?_⟩
          rintro rfl
          exact hj (nodup_ix hN e1 (I.ok.inj _ _ _ e hc ▸ hi))
    · by_cases hcc : c' = c
      · subst hcc; exact ⟨_, hc'⟩
      · obtain ⟨w2, z2⟩ := I.cell y c' e
        exact ⟨w2, z2.sameBut hs hcc⟩
    · obtain ⟨e, n, ne, nf, d⟩ := I.pin p hp
      refine ⟨(hs.2 p.1 ?_).trans e, n, ne, nf, d⟩
      intro q
      rw [q, hoc] at e
      have q' : oc = p.2 := Option.some.inj e
      exact d w' (by rw [← q']; exact hocd)
theorem store_ok {M : Model} {A : Around} {E : Value → Shared → Prop} {i : Nat} {x : Str} {v : V} {u : Value} {Q : Unit → Shared → Prop} (I : Inv X pins σ H s) (hN : X.N.Nodup) (hi : X.N[i]? = some x) (hx : Loc X.env.scope x) (r : RelV v u)
    (h : ∀ s', Inv X pins (σ.set i (some v)) H s' → Q () s') (hf : X.fn x = true ∨ X.env.scope.names.lookup x = some .local := by first | exact .inl rfl | exact .inr rfl | assumption) : wpAny M A (storeName X.env x u) Q E s :=
  store_ok2 I hN hi hx r (fun s' I' _ => h s' I') hf
/-- behind a call or a block, the state as it is -/
theorem Inv.call' {s' : Shared} {ch : List Addr} (I : Inv X pins σ H s) (ho : s'.os = s.os) (u : Un (frs X.stack) ch H H' s.heap s'.heap) (hok : HOk X.prog X.w H' s'.heap) (hg : AllBare s'.gens)
    (hch : ∀ b ∈ ch, (b ∈ X.ex ∨ X.s₀.heap.objs.size ≤ b) ∧ b ≠ X.env.locals ∧ (∀ x c, X.env.cells.lookup x = some c → c ≠ b) ∧ ∀ p ∈ X.pn ++ pins, p.1 ≠ b) : Inv X pins σ H' s' := by
  obtain ⟨h', g', d', t', o'⟩ := s'
  have e : o' = s.os := ho
  subst e
  exact I.call (g' := g') (t' := t') (d' := d') u hok hg hch
end

/-! ### the judgements -/
/-- an exception: its class, its own dict's address (where it has one), the abstract heap behind it -/
abbrev XK := Value → Option Addr → Hp → Prop
abbrev St := List (Option V)
abbrev VK := V → Hp → Prop
/-- an expression's reading; a test's; an argument list's -/
abbrev TE := St → Hp → VK → Prop
abbrev TT := St → Hp → (Bool → Hp → Prop) → Prop
abbrev TA := St → Hp → (List V → Hp → Prop) → Prop
/-- what is wanted behind a statement -/
structure Ends where
  nx : St → Hp → Prop
  rt : VK
  bk : St → Hp → Prop := fun _ _ => False
  ct : St → Hp → Prop := fun _ _ => False
abbrev TS := Ends → St → Hp → Prop

def EP (X : Cx) (pins : List (Addr × Obj)) (σ : St) (Q : VK) (u : Value) (s' : Shared) : Prop := ∃ v H', Inv X pins σ H' s' ∧ RelV v u ∧ Q v H'
def TP (X : Cx) (pins : List (Addr × Obj)) (σ : St) (Q : Bool → Hp → Prop) (b : Bool) (s' : Shared) : Prop := ∃ H', Inv X pins σ H' s' ∧ Q b H'
def AP (X : Cx) (pins : List (Addr × Obj)) (σ : St) (Q : List V → Hp → Prop) (us : List Value) (s' : Shared) : Prop := ∃ vs H', Inv X pins σ H' s' ∧ Vals vs us ∧ Q vs H'
def SP (X : Cx) (pins : List (Addr × Obj)) (D : Ends) (f : Flow) (s' : Shared) : Prop :=
  match f with
  | .next => ∃ σ' H', Inv X pins σ' H' s' ∧ D.nx σ' H'
  | .brk => ∃ σ' H', Inv X pins σ' H' s' ∧ D.bk σ' H'
  | .cont => ∃ σ' H', Inv X pins σ' H' s' ∧ D.ct σ' H'
  | .ret u => ∃ v σ' H', Inv X pins σ' H' s' ∧ RelV v u ∧ D.rt v H'

def PE (X : Cx) (e : Expr) (t : TE) : Prop :=
  ∀ (pins : List (Addr × Obj)) (s : Shared) (σ : St) (H : Hp) (Q : VK), Inv X pins σ H s → t σ H Q → wpAny (model X.prog X.w) X.A (eval e X.env) (EP X pins σ Q) X.xe s
def PT (X : Cx) (e : Expr) (t : TT) : Prop :=
  ∀ (pins : List (Addr × Obj)) (s : Shared) (σ : St) (H : Hp) (Q : Bool → Hp → Prop), Inv X pins σ H s → t σ H Q → wpAny (model X.prog X.w) X.A (isTrue e X.env (eval e X.env)) (TP X pins σ Q) X.xe s
/-- a test whatever its 'whole' is (and, or) -/
def PW (X : Cx) (e : Expr) (t : TT) : Prop :=
  ∀ (whole : Sem Value) (pins : List (Addr × Obj)) (s : Shared) (σ : St) (H : Hp) (Q : Bool → Hp → Prop), Inv X pins σ H s → t σ H Q → wpAny (model X.prog X.w) X.A (isTrue e X.env whole) (TP X pins σ Q) X.xe s
theorem PW.pt {X : Cx} {e : Expr} {t : TT} (h : PW X e t) : PT X e t := h _
/-- an argument list (no star), from the left -/
def PA (X : Cx) (es : List Expr) (t : TA) : Prop :=
  ∀ (pos : Pos) (pins : List (Addr × Obj)) (s : Shared) (σ : St) (H : Hp) (Q : List V → Hp → Prop), Inv X pins σ H s → t σ H Q → wpAny (model X.prog X.w) X.A (spliced (backTo pos (starEach es X.env))) (AP X pins σ Q) X.xe s
def PS (X : Cx) (st : Stmt) (t : TS) : Prop :=
  ∀ (pins : List (Addr × Obj)) (s : Shared) (σ : St) (H : Hp) (D : Ends), Inv X pins σ H s → t D σ H → wpAny (model X.prog X.w) X.A (exec st X.env) (SP X pins D) X.xe s
def PSs (X : Cx) (st : List Stmt) (t : TS) : Prop :=
  ∀ (pins : List (Addr × Obj)) (s : Shared) (σ : St) (H : Hp) (D : Ends), Inv X pins σ H s → t D σ H → wpAny (model X.prog X.w) X.A (execs st X.env) (SP X pins D) X.xe s
/-- weaken the end -/
theorem thn {α : Type} {t : Sem α} {Q Q' : α → Shared → Prop} {M : Model} {A : Around} {E : Value → Shared → Prop} {s : Shared} (h : wpAny M A t Q E s) (hQ : ∀ a s, Q a s → Q' a s) : wpAny M A t Q' E s := wpAny_mono h hQ fun _ _ x => x
end L2

namespace L2
open PySem PySem.Spec PyProof.Rows
section
variable {X : Cx}

/-! ### names and constants -/
def tVar (i : Nat) : TE := fun σ H Q => ∃ v, σ[i]? = some (some v) ∧ Q v H
def tC (v : V) : TE := fun _ H Q => Q v H
theorem pe_var {i : Nat} {x : Str} {pos : Pos} (hN : X.N[i]? = some x) (hv : Vis X.env.scope x) (hd : (x == ("__debug__" : Str)) = false := by decide) (hcd : (x == ("__classdict__" : Str)) = false := by decide) : PE X (.Name x pos) (tVar i) := by
  intro pins s σ H Q I h
  obtain ⟨v, e, h⟩ := h
  obtain ⟨m, hn, hl⟩ := I.loc
  obtain ⟨u, r, l⟩ := hl i x v hN e hv
  have fin : EP X pins σ Q u s := ⟨v, H, I, r, h⟩
  rcases l with ⟨hk, hm⟩ | ⟨hk, c, hc, hcell⟩
  · exact wpAny_Name (wpAny_loadName_local I.ok.kind hk hn hm fin) hd
  · rcases hk with hk | hk
    · exact wpAny_Name (wpAny_loadName_cell I.ok.kind hk hc hcell fin) hd
    · exact wpAny_Name (wpAny_loadName_free I.ok.kind hk hc hcell fin hcd) hd
theorem pe_int {i j pos} : PE X (.Constant (.int i) j pos) (tC (.int i)) := fun _ _ _ H _ I h => wpAny_Constant_int ⟨.int i, H, I.tok _, ⟨_, rfl⟩, h⟩
theorem pe_bl {b j pos} : PE X (.Constant (.bool b) j pos) (tC (.bl b)) := fun _ _ _ H _ I h => Constant_bool ⟨.bl b, H, I, rfl, h⟩
theorem pe_non {j pos} : PE X (.Constant .none j pos) (tC .non) := fun _ _ _ H _ I h => Constant_none ⟨.non, H, I, rfl, h⟩
theorem pe_str {x j pos} : PE X (.Constant (.str x) j pos) (tC (.str x)) := fun _ _ _ H _ I h => Calls.Constant_str ⟨.str x, H, I.tok _, ⟨_, rfl⟩, h⟩

/-- a global name of the def -/
def Gl (X : Cx) (x : Str) : Prop := X.env.kindOf x = some .globalImplicit
theorem ld_glob {E : Value → Shared → Prop} {pins : List (Addr × Obj)} {s : Shared} {σ : St} {H : Hp} {x : Str} {u : Value} {pos : Pos} {Q : Value → Shared → Prop} (I : Inv X pins σ H s) (hg : Gl X x) (hm : X.mg x = some u) (h : Q u s)
    (hd : (x == ("__debug__" : Str)) = false := by decide) : wpAny (model X.prog X.w) X.A (eval (.Name x pos) X.env) Q E s :=
  Calls.Name_function_global I.ok.kind hg (Calls.loadGlobal_global (by rw [I.ok.glob]; exact I.mod.glob.keeps I.bk) hm h) hd
theorem ld_blt {E : Value → Shared → Prop} {pins : List (Addr × Obj)} {s : Shared} {σ : St} {H : Hp} {x : Str} {u : Value} {pos : Pos} {Q : Value → Shared → Prop} (I : Inv X pins σ H s) (hg : Gl X x) (hm : X.mg x = none) (hv : bootBuiltins x = some u) (h : Q u s)
    (hn : x ≠ "__name__" := by decide) (hd : (x == ("__debug__" : Str)) = false := by decide) : wpAny (model X.prog X.w) X.A (eval (.Name x pos) X.env) Q E s := by
  obtain ⟨mb, h1, h2⟩ := I.mod.blt
  exact Calls.Name_function_global I.ok.kind hg (Calls.loadGlobal_builtin (by rw [I.ok.glob]; exact I.mod.glob.keeps I.bk) hm (by rw [I.ok.blt]; exact h1.keeps I.bk) ((h2 x hn).trans hv) h) hd
/-- a module's constant, a class, a function, as a value -/
theorem pe_glob {x : Str} {v : V} {u : Value} {pos : Pos} (hg : Gl X x) (hm : X.mg x = some u) (r : RelV v u) (hd : (x == ("__debug__" : Str)) = false := by decide) : PE X (.Name x pos) (tC v) :=
  fun _ _ _ H _ I h => ld_glob I hg hm ⟨v, H, I, r, h⟩ hd
theorem pe_bltn {x : Str} {v : V} {u : Value} {pos : Pos} (hg : Gl X x) (hm : X.mg x = none) (hv : bootBuiltins x = some u) (r : RelV v u) (hn : x ≠ "__name__" := by decide) (hd : (x == ("__debug__" : Str)) = false := by decide) : PE X (.Name x pos) (tC v) :=
  fun _ _ _ H _ I h => ld_blt I hg hm hv ⟨v, H, I, r, h⟩ hn hd

/-! ### arithmetic -/
variable {a b : Expr} {ta tb : TE} {pos : Pos}
/-! ### comparisons -/
/-- a comparison as a value, as a test -/
def tB (t : TE) : TT := fun σ H Q => t σ H fun x H1 => ∃ c, x = .bl c ∧ Q c H1
/-- an expression whose value is a bool, as a test -/
theorem pt_val {e : Expr} {t : TE} (h : PE X e t) (he : ∀ whole, isTrue e X.env whole = (do let v ← whole; standAt e.pos; holding [v] (truthy v)) := by intro _; rfl) : PT X e (tB t) := by
  intro pins s σ H Q I hw
  refine isTrue_plain (thn (h pins s σ H _ I hw) fun v s1 ⟨x, H1, I1, r1, q1⟩ => ?_) (he _)
  obtain ⟨d, rfl, q⟩ := q1
  cases r1
  exact wpAny_truthy_bool ⟨H1, I1, q⟩

/-! ### and, or, not -/
variable {tA tB' : TT} {rest : List Expr}
def tAnd (t u : TT) : TT := fun σ H Q => t σ H fun c H1 => if c = true then u σ H1 Q else Q false H1
def tOr (t u : TT) : TT := fun σ H Q => t σ H fun c H1 => if c = true then Q true H1 else u σ H1 Q
def tNot (t : TT) : TT := fun σ H Q => t σ H fun c H1 => Q (!c) H1
theorem pw_and1 (ha : PT X a tA) : PW X (.BoolOp .And [a] pos) tA := by
  intro wh pins s σ H Q I h
  refine isTrue_and (thn (ha pins s σ H Q I h) fun c s1 e => ?_)
  cases c with
  | true => exact isTrue_and_nil e
  | false => exact e
theorem pw_or1 (ha : PT X a tA) : PW X (.BoolOp .Or [a] pos) tA := by
  intro wh pins s σ H Q I h
  refine isTrue_or (thn (ha pins s σ H Q I h) fun c s1 e => ?_)
  cases c with
  | false => exact isTrue_or_nil e
  | true => exact e
theorem pw_and (ha : PT X a tA) (hb : PW X (.BoolOp .And (b :: rest) pos) tB') : PW X (.BoolOp .And (a :: b :: rest) pos) (tAnd tA tB') := by
  intro wh pins s σ H Q I h
  refine isTrue_and (thn (ha pins s σ H _ I h) fun c s1 ⟨H1, I1, q1⟩ => ?_)
  cases c with
  | true => exact hb wh pins s1 σ H1 Q I1 q1
  | false => exact ⟨H1, I1, q1⟩
theorem pw_or (ha : PT X a tA) (hb : PW X (.BoolOp .Or (b :: rest) pos) tB') : PW X (.BoolOp .Or (a :: b :: rest) pos) (tOr tA tB') := by
  intro wh pins s σ H Q I h
  refine isTrue_or (thn (ha pins s σ H _ I h) fun c s1 ⟨H1, I1, q1⟩ => ?_)
  cases c with
  | true => exact ⟨H1, I1, q1⟩
  | false => exact hb wh pins s1 σ H1 Q I1 q1
theorem pt_not (ha : PT X a tA) : PT X (.UnaryOp .Not a pos) (tNot tA) := by
  intro pins s σ H Q I h
  exact isTrue_not (ha pins s σ H (fun c H1 => Q (!c) H1) I h)
/-- .. as values (bools) -/
def tAndV (ta tb : TE) : TE := fun σ H Q => ta σ H fun x H1 => ∃ c, x = .bl c ∧ if c = true then tb σ H1 Q else Q (.bl false) H1
def tNotV (ta : TE) : TE := fun σ H Q => ta σ H fun x H1 => ∃ c, x = .bl c ∧ Q (.bl (!c)) H1
theorem pe_one {op} {t : TE} (h : PE X a t) : PE X (.BoolOp op [a] pos) t := fun pins s σ H Q I hw => BoolOp_one (h pins s σ H Q I hw)
theorem pe_and (ha : PE X a ta) (hb : PE X (.BoolOp .And (b :: rest) pos) tb) : PE X (.BoolOp .And (a :: b :: rest) pos) (tAndV ta tb) := by
  intro pins s σ H Q I h
  refine BoolOp_and (thn (ha pins s σ H _ I h) fun v s1 ⟨x, H1, I1, r1, q1⟩ => ?_)
  obtain ⟨c, rfl, q1⟩ := q1
  cases r1
  refine wpAny_truthy_bool ?_
  cases c with
  | true => exact hb pins s1 σ H1 Q I1 q1
  | false => exact ⟨.bl false, H1, I1, rfl, q1⟩
theorem pe_not (ha : PE X a ta) : PE X (.UnaryOp .Not a pos) (tNotV ta) := by
  intro pins s σ H Q I h
  refine UnaryOp_ (thn (ha pins s σ H _ I h) fun v s1 ⟨x, H1, I1, r1, q1⟩ => ?_)
  obtain ⟨c, rfl, q1⟩ := q1
  cases r1
  exact not_of (wpAny_truthy_bool ⟨.bl (!c), H1, I1, rfl, q1⟩)
/-- a if t else b -/
def tIf (t : TT) (ta tb : TE) : TE := fun σ H Q => t σ H fun c H1 => if c = true then ta σ H1 Q else tb σ H1 Q
theorem pe_ifExp {c : Expr} (hc : PT X c tA) (ha : PE X a ta) (hb : PE X b tb) : PE X (.IfExp c a b pos) (tIf tA ta tb) := by
  intro pins s σ H Q I h
  refine wpAny_IfExp (thn (hc pins s σ H _ I h) fun d s1 ⟨H1, I1, q1⟩ => ?_)
  cases d with
  | true => exact ha pins s1 σ H1 Q I1 q1
  | false => exact hb pins s1 σ H1 Q I1 q1
end
end L2

namespace L2
open PySem PySem.Spec PyProof.Rows

/-! ### a list, a tuple that is read: tracked, frozen, or an object of the module -/
def SqL (K : PySem.W.Frag) (H : Hp) (a : Addr) (xs : List V) : Prop :=
  Rd H a (.lst xs) ∨
    ∃ (o : Obj) (its : Array Value) (n : Nat), K.lookup a = some o ∧ o.cls = .type "list" ∧ o.dict = none ∧ o.data = .seq its n ∧ its.size ≤ sizeLine ∧ Vals xs its.toList
def SqT (K : PySem.W.Frag) (H : Hp) (a : Addr) (xs : List V) : Prop :=
  Rd H a (.tup xs) ∨
    ∃ (o : Obj) (its : Array Value) (n : Nat), K.lookup a = some o ∧ o.cls = .type "tuple" ∧ o.data = .seq its n ∧ its.size ≤ sizeLine ∧ Vals xs its.toList
def absV : Value → Option V
  | .none => some .non
  | .bool b => some (.bl b)
  | .int i _ => some (.int i)
  | .str x _ => some (.str x)
  | .bytes b _ => some (.byt b)
  | .float b _ => some (.flt b)
  | .ref a => some (.ref a)
  | .type n => some (.ty n)
  | _ => none
theorem RelV.abs {x : V} {u : Value} (r : RelV x u) : absV u = some x := by
  cases x with
  | non => cases r; rfl
  | bl _ => cases r; rfl
  | int _ => obtain ⟨t, rfl⟩ := r; rfl
  | str _ => obtain ⟨t, rfl⟩ := r; rfl
  | byt _ => obtain ⟨t, rfl⟩ := r; rfl
  | flt _ => obtain ⟨t, rfl⟩ := r; rfl
  | ref _ => cases r; rfl
  | ty _ => cases r; rfl
theorem RelV.inj {x y : V} {u : Value} (r : RelV x u) (q : RelV y u) : x = y := Option.some.inj (r.abs.symm.trans q.abs)
theorem Vals.inj {xs ys : List V} {us : List Value} (h : Vals xs us) (h' : Vals ys us) : xs = ys := by
  induction h generalizing ys with
  | nil => cases h'; rfl
  | cons r t ih => cases h' with
    | cons r' t' => rw [r.inj r', ih t']
section
variable {X : Cx} {pins : List (Addr × Obj)} {σ : St} {H : Hp} {s : Shared} {a : Addr} {xs ys : List V}
theorem SqL.of {K : PySem.W.Frag} (h : H a = some (.lst xs)) : SqL K H a xs := .inl (.inl h)
theorem SqT.of {K : PySem.W.Frag} (h : H a = some (.tup xs)) : SqT K H a xs := .inl (.inl h)
theorem Inv.list (I : Inv X pins σ H s) (h : SqL X.K H a xs) : ∃ its : List Value, Vals xs its ∧ PlainL s.heap a its.toArray ∧ xs.length ≤ sizeLine := by
  rcases h with h | ⟨o, its, n, hk, hc, hd, hs, hz, r⟩
  · obtain ⟨z, its, n, r, e⟩ := h.ok I.hok
    exact ⟨its, r, ⟨_, n, e, rfl, rfl, rfl⟩, z⟩
  · refine ⟨its.toList, r, ⟨o, n, I.kIn a o hk, hc, hd, by simpa using hs⟩, ?_⟩
    have e := r.length
    simp only [Array.length_toList] at e
    omega
theorem Inv.tuple (I : Inv X pins σ H s) (h : SqT X.K H a xs) : ∃ its : List Value, Vals xs its ∧ IsTup s.heap a its.toArray ∧ xs.length ≤ sizeLine := by
  rcases h with h | ⟨o, its, n, hk, hc, hs, hz, r⟩
  · obtain ⟨z, its, r, p⟩ := h.ok I.hok
    exact ⟨its, r, p, z⟩
  · refine ⟨its.toList, r, ⟨o, I.kIn a o hk, hc, n, by simpa using hs⟩, ?_⟩
    have e := r.length
    simp only [Array.length_toList] at e
    omega
theorem Inv.list_inj (I : Inv X pins σ H s) (h : SqL X.K H a xs) (h' : SqL X.K H a ys) : xs = ys := by
  obtain ⟨its, r, ⟨o, n, e, _, _, d⟩, _⟩ := I.list h
  obtain ⟨its', r', ⟨o', n', e', _, _, d'⟩, _⟩ := I.list h'
  rw [e] at e'; cases e'
  rw [d] at d'
  injection d' with d1 _
  have : its = its' := by simpa using congrArg Array.toList d1
  subst this
  exact r.inj r'
theorem Inv.tuple_inj (I : Inv X pins σ H s) (h : SqT X.K H a xs) (h' : SqT X.K H a ys) : xs = ys := by
  obtain ⟨its, r, ⟨o, e, _, n, d⟩, _⟩ := I.tuple h
  obtain ⟨its', r', ⟨o', e', _, n', d'⟩, _⟩ := I.tuple h'
  rw [e] at e'; cases e'
  rw [d] at d'
  injection d' with d1 _
  have : its = its' := by simpa using congrArg Array.toList d1
  subst this
  exact r.inj r'
end

/-! ### another wish about exceptions -/
abbrev Cx.wish (X : Cx) (E : Value → Shared → Prop) : Cx := { X with xe := E }
/-- no exception leaves -/
abbrev Cx.nox (X : Cx) : Cx := X.wish fun _ _ => False
theorem Cx.Ok.wish {X : Cx} (ok : X.Ok) (E : Value → Shared → Prop) : (X.wish E).Ok :=
  ⟨ok.mod, ok.kind, ok.glob, ok.blt, ok.above, ok.inj, ok.has, ok.cab, ok.hd, ok.frames, ok.stk, ok.exf, ok.bs, ok.bsz, ok.noex, ok.exfs, ok.funs, ok.frf⟩
theorem Cx.Ok.unwish {X : Cx} {E : Value → Shared → Prop} (ok : (X.wish E).Ok) : X.Ok :=
  ⟨ok.mod, ok.kind, ok.glob, ok.blt, ok.above, ok.inj, ok.has, ok.cab, ok.hd, ok.frames, ok.stk, ok.exf, ok.bs, ok.bsz, ok.noex, ok.exfs, ok.funs, ok.frf⟩
section
variable {X : Cx} {pins : List (Addr × Obj)} {σ : St} {H : Hp} {s : Shared} {E : Value → Shared → Prop}
theorem Inv.wish (I : Inv X pins σ H s) (E : Value → Shared → Prop) : Inv (X.wish E) pins σ H s := ⟨I.ok.wish E, I.os, I.bare, I.base, I.loc, I.cell, I.free, I.freeC, I.pin, I.hok, I.len⟩
theorem Inv.unwish (I : Inv (X.wish E) pins σ H s) : Inv X pins σ H s := ⟨I.ok.unwish, I.os, I.bare, I.base, I.loc, I.cell, I.free, I.freeC, I.pin, I.hok, I.len⟩
theorem SP.unwish {D : Ends} {f : Flow} {s' : Shared} (h : SP (X.wish E) pins D f s') : SP X pins D f s' := by
  cases f with
  | next => obtain ⟨σ', H', I, q⟩ := h; exact ⟨σ', H', I.unwish, q⟩
  | brk => obtain ⟨σ', H', I, q⟩ := h; exact ⟨σ', H', I.unwish, q⟩
  | cont => obtain ⟨σ', H', I, q⟩ := h; exact ⟨σ', H', I.unwish, q⟩
  | ret u => obtain ⟨v, σ', H', I, r, q⟩ := h; exact ⟨v, σ', H', I.unwish, r, q⟩
theorem PSs.nox {st : List Stmt} {t : TS} (h : PSs X.nox st t) : PSs X st t := fun pins s σ H D I hw =>
  wpAny_mono (h pins s σ H D (I.wish _) hw) (fun _ _ q => q.unwish) fun _ _ z => False.elim z
end

/-! ### blocks and small statements -/
section
variable {X : Cx} {st : Stmt} {rest : List Stmt} {t u : TS} {e : Expr} {te : TE} {pos : Pos}
def tNext : TS := fun D σ H => D.nx σ H
def tSeq (t u : TS) : TS := fun D σ H => t { D with nx := u D } σ H
theorem pss_nil : PSs X [] tNext := fun _ _ σ H _ I h => wpAny_execs_nil ⟨σ, H, I, h⟩
theorem pss_cons (h1 : PS X st t) (h2 : PSs X rest u) : PSs X (st :: rest) (tSeq t u) := by
  intro pins s σ H D I h
  refine wpAny_execs_cons (thn (h1 pins s σ H { D with nx := u D } I h) fun f s1 q => ?_)
  cases f with
  | next =>
    obtain ⟨σ', H', I', q⟩ := q
    exact h2 pins s1 σ' H' D I' q
  | ret v => exact q
  | brk => exact q
  | cont => exact q
theorem pss_one (h1 : PS X st t) : PSs X [st] t := by
  intro pins s σ H D I h
  refine wpAny_execs_cons (thn (h1 pins s σ H D I h) fun f s1 q => ?_)
  cases f with
  | next => exact wpAny_execs_nil q
  | ret v => exact q
  | brk => exact q
  | cont => exact q
/-- in a def's body nothing is shown -/
theorem Inv.quiet {pins : List (Addr × Obj)} {σ : St} {H : Hp} {s : Shared} (I : Inv X pins σ H s) : interactive X.env = false := by simp [interactive, I.ok.kind]
/-- an expression whose value is dropped -/
def tDrop (te : TE) : TS := fun D σ H => te σ H fun _ H1 => D.nx σ H1
theorem ps_expr (he : PE X e te) (hs : swapsWith e none pos.line X.env = pure false := by rfl) : PS X (.Expr e pos) (tDrop te) := by
  intro pins s σ H D I h
  exact wpAny_Expr_any (thn (he pins s σ H _ I h) fun v s1 ⟨x, H1, I1, r1, q1⟩ => ⟨σ, H1, I1, q1⟩) I.quiet hs
def tRet (te : TE) : TS := fun D σ H => te σ H D.rt
theorem ps_ret (he : PE X e te) : PS X (.Return (some e) pos) (tRet te) := by
  intro pins s σ H D I h
  exact wpAny_Return_some (thn (he pins s σ H _ I h) fun v s1 ⟨x, H1, I1, r1, q1⟩ => ⟨x, σ, H1, I1, r1, q1⟩)
def tRetN : TS := fun D _ H => D.rt .non H
theorem ps_retN : PS X (.Return none pos) tRetN := fun _ _ σ H _ I h => wpAny_Return_none ⟨.non, σ, H, I, rfl, h⟩
def tIfS (c : TT) (t u : TS) : TS := fun D σ H => c σ H fun b H1 => if b = true then t D σ H1 else u D σ H1
theorem ps_if {c : Expr} {a b : List Stmt} {tc : TT} (hc : PT X c tc) (ha : PSs X a t) (hb : PSs X b u) : PS X (.If c a b pos) (tIfS tc t u) := by
  intro pins s σ H D I h
  refine wpAny_If (thn (hc pins s σ H _ I h) fun d s1 ⟨H1, I1, q1⟩ => ?_)
  cases d with
  | true => exact ha pins s1 σ H1 D I1 q1
  | false => exact hb pins s1 σ H1 D I1 q1
end

/-! ### targets -/
abbrev TG := V → St → Hp → (St → Hp → Prop) → Prop
abbrev TGs := List V → St → Hp → (St → Hp → Prop) → Prop
def PG (X : Cx) (target : Expr) (t : TG) : Prop :=
  ∀ (pins : List (Addr × Obj)) (s : Shared) (σ : St) (H : Hp) (v : V) (u : Value) (Q : St → Hp → Prop), Inv X pins σ H s → RelV v u → t v σ H Q →
    wpAny (model X.prog X.w) X.A (assign target X.env u) (fun _ s' => ∃ σ' H', Inv X pins σ' H' s' ∧ Q σ' H') X.xe s
/-- several targets, one after another -/
def PGs (X : Cx) (ts : List Expr) (t : TGs) : Prop :=
  ∀ (pins : List (Addr × Obj)) (s : Shared) (σ : St) (H : Hp) (vs : List V) (us : List Value) (Q : St → Hp → Prop), Inv X pins σ H s → Vals vs us → t vs σ H Q →
    wpAny (model X.prog X.w) X.A (assignInOrder ((assignEach ts X.env).map (·.2)) us) (fun _ s' => ∃ σ' H', Inv X pins σ' H' s' ∧ Q σ' H') X.xe s
/-- o[i] = v, by values -/
abbrev TSet := V → V → V → Hp → (Hp → Prop) → Prop
def PSet (X : Cx) (t : TSet) : Prop :=
  ∀ (pins : List (Addr × Obj)) (s : Shared) (σ : St) (H : Hp) (o i v : V) (ov iv u : Value) (Q : Hp → Prop), Inv X pins σ H s → RelV o ov → RelV i iv → RelV v u → t o i v H Q →
    wpAny (model X.prog X.w) X.A (setItem ov iv u) (fun _ s' => ∃ H', Inv X pins σ H' s' ∧ Q H') X.xe s
/-- a op= b, by values -/
abbrev TIp := V → V → Hp → VK → Prop
def PIp (X : Cx) (op : Operator) (t : TIp) : Prop :=
  ∀ (pins : List (Addr × Obj)) (s : Shared) (σ : St) (H : Hp) (x y : V) (v u : Value) (Q : VK), Inv X pins σ H s → RelV x v → RelV y u → t x y H Q →
    wpAny (model X.prog X.w) X.A (inplaceOp op v u) (EP X pins σ Q) X.xe s
section
variable {X : Cx} {pos : Pos}
def gName (i : Nat) : TG := fun v σ H Q => Q (σ.set i (some v)) H
theorem pg_name {i : Nat} {x : Str} (hN : X.N.Nodup) (hi : X.N[i]? = some x) (hx : Loc X.env.scope x) (hf : X.fn x = true ∨ X.env.scope.names.lookup x = some .local := by first | exact .inl rfl | exact .inr rfl | assumption) : PG X (.Name x pos) (gName i) := by
  intro pins s σ H v u Q I r h
  exact wpAny_assign_Name (store_ok I hN hi hx r (fun s' I' => ⟨_, H, I', h⟩) hf)
def gNil : TGs := fun vs σ H Q => vs = [] ∧ Q σ H
def gCons (t : TG) (u : TGs) : TGs := fun vs σ H Q => ∃ v r, vs = v :: r ∧ t v σ H fun σ' H' => u r σ' H' Q
theorem pgs_nil : PGs X [] gNil := by
  intro pins s σ H vs us Q I r h
  obtain ⟨e, h⟩ := h
  subst e
  cases r
  exact assignInOrder_nil ⟨σ, H, I, h⟩
theorem pgs_cons {e : Expr} {es : List Expr} {t : TG} {u : TGs} (h1 : PG X e t) (h2 : PGs X es u)
    (hs : (assignEach (e :: es) X.env).map (·.2) = assign e X.env :: (assignEach es X.env).map (·.2) := by rfl) : PGs X (e :: es) (gCons t u) := by
  intro pins s σ H vs us Q I r h
  obtain ⟨v, vr, e1, h⟩ := h
  subst e1
  cases r with
  | cons r rr =>
    rw [hs]
    refine assignInOrder_cons (thn (h1 pins s σ H _ _ _ I r h) fun _ s1 ⟨σ1, H1, I1, q1⟩ => ?_)
    exact h2 pins s1 σ1 H1 _ _ Q I1 rr q1
/-- (a, b, ..) = a tuple of that length -/
def gTup (K : PySem.W.Frag) (n : Nat) (t : TGs) : TG := fun v σ H Q => ∃ a xs, v = .ref a ∧ SqT K H a xs ∧ xs.length = n ∧ t xs σ H Q
theorem pg_tup {es : List Expr} {k : Nat} {t : TGs} {n : Nat} (hc : X.calm = true) (h : PGs X es t)
    (hn : (assignEach es X.env).length = n := by rfl) (hst : (assignEach es X.env).findIdx? (·.1) = none := by rfl) : PG X (.Tuple es k pos) (gTup X.K n t) := by
  intro pins s σ H v u Q I r hw
  obtain ⟨a, xs, e1, hq, hl, hw⟩ := hw
  subst e1
  cases r
  obtain ⟨its, rv, ht, hz⟩ := I.tuple hq
  refine assign_Tuple_tuple (I.ok.hd hc) ht (by simp [hn, ← hl, rv.length]) hst fun h' hx => ?_
  have I1 : Inv X pins σ H { s with heap := h' } := I.kept (t' := s.toks) fun b o e => hx b o (Nat.ne_of_lt (Heap.lt_size e)) e
  exact h pins _ σ H xs _ Q I1 (by simpa using rv) hw
/-- o[i] = .. -/
def gSub (to ti : TE) (t : TSet) : TG := fun v σ H Q => to σ H fun o H1 => ti σ H1 fun i H2 => t o i v H2 fun H3 => Q σ H3
theorem pg_sub {o i : Expr} {to ti : TE} {t : TSet} (ho : PE X o to) (hi : PE X i ti) (hs : PSet X t)
    (ha : ∀ v, assign (.Subscript o i pos) X.env v = (do
      let ov ← holding [v] (eval o X.env)
      let iv ← holding [v, ov] (eval i X.env)
      standAt pos
      holding [v, ov, iv] (setItem ov iv v)
      release [v, ov, iv] []) := by intro _; rfl) : PG X (.Subscript o i pos) (gSub to ti t) := by
  intro pins s σ H v u Q I r h
  rw [ha]
  refine wpAny_bind (wpAny_holding (thn (ho pins s σ H _ I h) fun ov s1 ⟨x, H1, I1, r1, q1⟩ => ?_))
  refine wpAny_bind (wpAny_holding (thn (hi pins s1 σ H1 _ I1 q1) fun iv s2 ⟨y, H2, I2, r2, q2⟩ => ?_))
  refine wpAny_bind (wpAny_standAt (wpAny_bind (wpAny_holding (thn (hs pins s2 σ H2 x y v ov iv u _ I2 r1 r2 r q2) fun _ s3 ⟨H3, I3, q3⟩ => ?_))))
  exact wpAny_release ⟨σ, H3, I3, q3⟩
/-- target = value -/
def tAsg (te : TE) (g : TG) : TS := fun D σ H => te σ H fun x H1 => g x σ H1 D.nx
theorem ps_asg {tg e : Expr} {te : TE} {g : TG} (he : PE X e te) (hg : PG X tg g) (hs : swapsWithSole [tg] e pos.line X.env = pure false := by rfl) (hw : swappedStores [tg] e X.env = pure none := by rfl)
    (h1 : (assignEach [tg] X.env).map (·.2) = [assign tg X.env] := by rfl) : PS X (.Assign [tg] e pos) (tAsg te g) := by
  intro pins s σ H D I h
  refine wpAny_Assign_stores (thn (he pins s σ H _ I h) fun v s1 ⟨x, H1, I1, r1, q1⟩ => ?_) hs hw
  rw [h1]
  exact thn (hg pins s1 σ H1 x v _ I1 r1 q1) fun _ s2 q => q
/-- name = value -/
theorem ps_set {i : Nat} {x : Str} {e : Expr} {te : TE} {pos' : Pos} (hN : X.N.Nodup) (hi : X.N[i]? = some x) (hx : Loc X.env.scope x) (he : PE X e te) (hs : swapsWith e (some (.Name x pos')) pos.line X.env = pure false := by rfl) (hf : X.fn x = true ∨ X.env.scope.names.lookup x = some .local := by first | exact .inl rfl | exact .inr rfl | assumption) :
    PS X (.Assign [.Name x pos'] e pos) (tAsg te (gName i)) := by
  intro pins s σ H D I h
  refine wpAny_Assign_Name (thn (he pins s σ H _ I h) fun v s1 ⟨y, H1, I1, r1, q1⟩ => ?_) hs
  exact store_ok I1 hN hi hx r1 (fun s2 I2 => ⟨_, H1, I2, q1⟩) hf
/-- name op= e -/
def tAug (i : Nat) (te : TE) (ti : TIp) : TS := fun D σ H => ∃ x, σ[i]? = some (some x) ∧ te σ H fun y H1 => ti x y H1 fun z H2 => D.nx (σ.set i (some z)) H2
theorem ps_aug {i : Nat} {x : Str} {e : Expr} {te : TE} {op : Operator} {ti : TIp} {pos' : Pos} (hN : X.N.Nodup) (hi : X.N[i]? = some x) (hx : Loc X.env.scope x) (he : PE X e te) (ho : PIp X op ti) (hf : X.fn x = true ∨ X.env.scope.names.lookup x = some .local := by first | exact .inl rfl | exact .inr rfl | assumption) :
    PS X (.AugAssign (.Name x pos') op e pos) (tAug i te ti) := by
  intro pins s σ H D I h
  obtain ⟨v, e1, h⟩ := h
  obtain ⟨m, hn, hl⟩ := I.loc
  have vis : Vis X.env.scope x := by rcases hx with k | k; exact .inl k; exact .inr (.inl k)
  obtain ⟨u, r, l⟩ := hl i x v hi e1 vis
  refine wpAny_AugAssign_Name ?_
  have go : wpAny (model X.prog X.w) X.A (eval e X.env) (fun w s₂ => wpAny (model X.prog X.w) X.A (inplaceOp op u w) (fun r s₃ => wpAny (model X.prog X.w) X.A (storeName X.env x r) (fun _ => SP X pins D .next) X.xe s₃) X.xe s₂) X.xe s := by
    refine thn (he pins s σ H _ I h) fun w s1 ⟨y, H1, I1, r1, q1⟩ => ?_
    refine thn (ho pins s1 σ H1 v y u w _ I1 r r1 q1) fun z s2 ⟨zv, H2, I2, r2, q2⟩ => ?_
    exact store_ok I2 hN hi hx r2 (fun s3 I3 => ⟨_, H2, I3, q2⟩) hf
  rcases l with ⟨hk, hm⟩ | ⟨hk, c, hc, hcell⟩
  · exact wpAny_loadName_local I.ok.kind hk hn hm go
  · rcases hk with hk | hk
    · exact wpAny_loadName_cell I.ok.kind hk hc hcell go
    · rcases hx with k | k
      · have : X.env.scope.names.lookup x = some .free := hk
        rw [k] at this; cases this
      · have : X.env.scope.names.lookup x = some .free := hk
        rw [k] at this; cases this
/-- ints -/
def ipI (f : Int → Int → Int) : TIp := fun x y H Q => ∃ i j, x = .int i ∧ y = .int j ∧ Q (.int (f i j)) H
theorem ip_add : PIp X .Add (ipI fun i j => i + j) := by
  intro pins s σ H x y v u Q I r1 r2 h
  obtain ⟨i, j, e1, e2, q⟩ := h
  subst e1; subst e2
  obtain ⟨t, rfl⟩ := r1
  obtain ⟨t', rfl⟩ := r2
  exact iadd_int ⟨.int _, H, I.tok _, ⟨_, rfl⟩, q⟩
end

/-! ### while -/
section
variable {X : Cx} {pos : Pos}
/-- the invariant W with its measure -/
def tWhile (c : TT) (tb : TS) : TS := fun D σ H => ∃ W : Nat → St → Hp → Prop, (∃ m, W m σ H) ∧ ∀ m σ H, W m σ H →
  c σ H fun b H1 => if b = true then ∃ N : St → Hp → Prop, (∀ σ' H', N σ' H' → ∃ m', m' < m ∧ W m' σ' H') ∧ tb { D with nx := N, ct := N, bk := D.nx } σ H1 else D.nx σ H1
theorem ps_while {c : Expr} {body : List Stmt} {tc : TT} {tb : TS} (hp : PassesOwn (model X.prog X.w) X.A X.env X.xe) (hc : PT X c tc) (hb : PSs X body tb) : PS X (.While c body [] pos) (tWhile tc tb) := by
  intro pins s σ H D I h
  obtain ⟨W, ⟨m0, w0⟩, turn⟩ := h
  refine wpAny_While (codeAny_whileLoop (fun n s' => ∃ σ' H', Inv X pins σ' H' s' ∧ W n σ' H') ?_ m0 ⟨σ, H, I, w0⟩)
  rintro n s1 ⟨σ1, H1, I1, w1⟩
  refine wpAny_passesOwn hp (thn (hc pins s1 σ1 H1 _ I1 (turn n σ1 H1 w1)) fun b s2 ⟨H2, I2, q2⟩ => ?_)
  cases b with
  | true =>
    obtain ⟨N, hN, q2⟩ := q2
    rw [if_pos rfl]
    refine wpAny_passesOwn hp (thn (hb pins s2 σ1 H2 _ I2 q2) fun f s3 q3 => ?_)
    cases f with
    | next =>
      obtain ⟨σ3, H3, I3, n3⟩ := q3
      obtain ⟨m', hm, w3⟩ := hN σ3 H3 n3
      exact ⟨m', hm, σ3, H3, I3, w3⟩
    | cont =>
      obtain ⟨σ3, H3, I3, n3⟩ := q3
      obtain ⟨m', hm, w3⟩ := hN σ3 H3 n3
      exact ⟨m', hm, σ3, H3, I3, w3⟩
    | brk => exact q3
    | ret v => exact q3
  | false =>
    rw [if_neg Bool.false_ne_true]
    exact wpAny_execs_nil ⟨σ1, H2, I2, q2⟩
end

/-! ### what a loop or a comprehension walks -/
/-- at turn i: it yields x (the heap may grow), or it stops -/
structure It where
  go : Nat → Hp → Prop
  yld : Nat → Hp → V → Hp → Prop
  stop : Nat → Hp → Prop
/-- the iterator's own objects may turn: they are not the frame's, not pinned, younger than the entry (or a comprehension's own) -/
def FpOk (X : Cx) (pins : List (Addr × Obj)) (H : Hp) (b : Addr) : Prop :=
  H b = none ∧ b ≠ X.env.locals ∧ b ∉ X.fs ∧ (b ∈ X.ex ∨ X.s₀.heap.objs.size ≤ b) ∧ (∀ x c, X.env.cells.lookup x = some c → c ≠ b) ∧ ∀ p ∈ X.pn ++ pins, p.1 ≠ b
theorem Inv.fpOk {X : Cx} {pins : List (Addr × Obj)} {σ : St} {H H' : Hp} {s : Shared} {b : Addr} (I : Inv X pins σ H s) (hb : s.heap.objs.size ≤ b) (hn : H' b = none) : FpOk X pins H' b := by
  refine ⟨hn, Nat.ne_of_gt (Nat.lt_of_lt_of_le I.lt hb), I.nofs hb, .inr (Nat.le_trans I.sz hb), fun x c e z => ?_, fun p hp z => ?_⟩
  · obtain ⟨v, q⟩ := I.cell x c e
    exact absurd (Nat.lt_of_lt_of_le q.lt (by rw [z]; exact hb)) (Nat.lt_irrefl _)
  · exact absurd (Nat.lt_of_lt_of_le (Heap.lt_size (I.pin p hp).1) (by rw [z]; exact hb)) (Nat.lt_irrefl _)
structure Turn (P : Program) (w : World) (K : PySem.W.Frag) (tg : Expr) (J : It) (fp : List Addr) (it : Addr) (tn : Nat → Heap → Prop) : Prop where
  mem : it ∈ fp
  obj : ∀ i h, tn i h → ∀ b ∈ fp, ∃ o, h.get? b = some o ∧ ∀ v, o.data ≠ .cell v
  keep : ∀ i h h', tn i h → (∀ b ∈ fp, ∀ o, h.get? b = some o → h'.get? b = some o) → tn i h'
  item : ∀ (X : Cx), X.prog = P → X.w = w → X.K = K → X.calm = true → ∀ (i : Nat) (pins : List (Addr × Obj)) (s : Shared) (σ : St) (H : Hp) (E : Value → Shared → Prop), Inv X pins σ H s → (∀ b ∈ fp, FpOk X pins H b) → tn i s.heap → J.go i H →
    wpAny (model P w) X.A (pyNext (.ref it)) (fun r s1 => ∃ u, r = some u ∧
      wpAny (model P w) X.A (letOwnedTupleGo tg (.ref it) u) (fun _ s2 => ∃ x H', Inv X pins σ H' s2 ∧ RelV x u ∧ J.yld i H x H' ∧ tn (i + 1) s2.heap ∧ ∀ b ∈ fp, H' b = none) E s1) E s
  done : ∀ (X : Cx), X.prog = P → X.w = w → X.K = K → X.calm = true → ∀ (i : Nat) (pins : List (Addr × Obj)) (s : Shared) (σ : St) (H : Hp) (E : Value → Shared → Prop), Inv X pins σ H s → (∀ b ∈ fp, FpOk X pins H b) → tn i s.heap → J.stop i H →
    wpAny (model P w) X.A (pyNext (.ref it)) (fun r s1 => r = none ∧ Inv X pins σ H s1) E s
  self : ∀ (A : Around) (i : Nat) (s : Shared) (Q : Value → Shared → Prop) (E : Value → Shared → Prop), tn i s.heap → Q (.ref it) s → wpAny (model P w) A (pyIter (.ref it)) Q E s
abbrev TI := St → Hp → (It → Hp → Prop) → Prop
/-- an iterator has come -/
def PIE (X : Cx) (pins : List (Addr × Obj)) (σ : St) (tg : Expr) (R : It → Hp → Prop) (itv : Value) (s2 : Shared) : Prop :=
  ∃ (it : Addr) (fp : List Addr) (tn : Nat → Heap → Prop) (J : It) (H' : Hp), itv = .ref it ∧ Inv X pins σ H' s2 ∧ Turn X.prog X.w X.K tg J fp it tn ∧ tn 0 s2.heap ∧ (∀ b ∈ fp, FpOk X pins H' b) ∧ R J H'
def PI (X : Cx) (tg iter : Expr) (wi : TI) : Prop :=
  ∀ (pins : List (Addr × Obj)) (s : Shared) (σ : St) (H : Hp) (R : It → Hp → Prop), Inv X pins σ H s → wi σ H R →
    wpAny (model X.prog X.w) X.A (eval iter X.env) (fun v s1 => wpAny (model X.prog X.w) X.A (pyIter v) (PIE X pins σ tg R) X.xe s1) X.xe s

/-- the step ahead of the store is nothing for an iterator that keeps no tuple -/
theorem go_of {M : Model} {A : Around} {E : Value → Shared → Prop} {s : Shared} {tg : Expr} {it : Addr} {u : Value} {o : Obj} {n : String} {vs : Array Value} {Q : Unit → Shared → Prop} (ho : s.heap.get? it = some o) (hc : o.cls = .type n) (hd : o.data = .fields vs)
    (hn : ["enumerate", "zip", "dict_itemiterator", "dict_reverseitemiterator", "odict_iterator", "itertools.zip_longest", "itertools.pairwise"].contains n = false) (hQ : Q () s) : wpAny M A (letOwnedTupleGo tg (.ref it) u) Q E s := by
  unfold letOwnedTupleGo
  cases tg <;> first
    | exact wpAny_pure hQ
    | (cases u <;> first
        | exact wpAny_pure hQ
        | (refine wpAny_bind (wpAny_load ho ?_)
           rw [hc, hd]
           show wpAny M A (if (["enumerate", "zip", "dict_itemiterator", "dict_reverseitemiterator", "odict_iterator", "itertools.zip_longest", "itertools.pairwise"].contains n && vs[0]? == some (rawInt _)) = true then _ else _) Q E s
           rw [if_neg (by intro h; rw [hn, Bool.false_and] at h; cases h)]
           exact wpAny_pure hQ))

/-- the list at a, as it stands at each turn (a loop may append to it) -/
def Itl (K : PySem.W.Frag) (a : Addr) : It :=
  ⟨fun i H => ∃ xs x, SqL K H a xs ∧ xs[i]? = some x, fun i H x H' => H' = H ∧ ∀ xs, SqL K H a xs → xs[i]? = some x, fun i H => ∃ xs, SqL K H a xs ∧ xs.length ≤ i⟩
/-- lo, lo + 1, .. (n of them) -/
def Itr (lo : Int) (n : Nat) : It := ⟨fun i _ => i < n, fun i H x H' => H' = H ∧ x = .int (lo + i), fun i _ => n ≤ i⟩
theorem turn_list {P : Program} {w : World} {K : PySem.W.Frag} {tg : Expr} (a it : Addr) : Turn P w K tg (Itl K a) [it] it (fun i h => h.IsListIter it a i) where
  mem := by simp
  obj := fun i h st b hb => by
    have e : b = it := by simpa using hb
    subst e
    obtain ⟨o, e, c, d⟩ := st
    exact ⟨o, e, fun v z => by rw [d] at z; cases z⟩
  keep := fun i h h' st k => st.at fun o e => k it (by simp) o e
  item := by
    intro X hP hw hK hc i pins s σ H E I hf st hg
    subst hP hw hK
    obtain ⟨xs, x, hq, hx⟩ := hg
    obtain ⟨its, rv, p, hz⟩ := I.list hq
    obtain ⟨u, hu, ru⟩ := rv.get hx
    obtain ⟨f0, f1, f2, f3, f4, f5⟩ := hf it (by simp)
    refine wpAny_pyNext_list_item st p.isList (x := u) (by simpa using hu) fun h' st' sb => ?_
    have I1 : Inv X pins σ H { s with heap := h' } := I.turned (t' := s.toks) (fun b o hb e => (sb.2 b hb).trans e) f0 f1 f3 f4 f5
    obtain ⟨o, e, c, d⟩ := id st'
    exact ⟨u, rfl, go_of (s := { s with heap := h' }) e c d (by decide) ⟨x, H, I1, ru, ⟨rfl, fun ys hy => by rw [I.list_inj hy hq]; exact hx⟩, st', fun b hb => (hf b hb).1⟩⟩
  done := by
    intro X hP hw hK hc i pins s σ H E I hf st hg
    subst hP hw hK
    obtain ⟨xs, hq, hx⟩ := hg
    obtain ⟨its, rv, p, hz⟩ := I.list hq
    obtain ⟨f0, f1, f2, f3, f4, f5⟩ := hf it (by simp)
    have hl := rv.length
    exact wpAny_pyNext_list_end (I.ok.hd hc) st p.isList (by simp; omega) fun h' eb => ⟨rfl, I.turned (t' := s.toks) (fun b o hb e => eb b o hb e) f0 f1 f3 f4 f5⟩
  self := fun _ _ _ _ _ st h => wpAny_pyIter_listiter st h
theorem turn_range {P : Program} {w : World} {K : PySem.W.Frag} {tg : Expr} (it : Addr) (lo : Int) (n : Nat) : Turn P w K tg (Itr lo n) [it] it (fun i h => IsRangeIter h it (lo + (i : Nat) * 1) ((n : Int) - (i : Nat)) 1) where
  mem := by simp
  obj := fun i h st b hb => by
    have e : b = it := by simpa using hb
    subst e
    exact ⟨_, st, fun v z => by
      have z' : Data.fields _ = Data.cell v := z
      cases z'⟩
  keep := fun i h h' st k => k it (by simp) _ st
  item := by
    intro X hP hw hK hc i pins s σ H E I hf st hg
    subst hP hw hK
    obtain ⟨f0, f1, f2, f3, f4, f5⟩ := hf it (by simp)
    have W := Walks.range (prog := X.prog) (w := X.w) (I.ok.hd hc) it lo 1 n
    refine W.item i s _ _ hg st fun v h' tk hv st' kk => ?_
    obtain ⟨t, rfl⟩ := hv
    have I1 : Inv X pins σ H { s with heap := h', toks := tk } := I.turned (fun b o hb e => kk b o (by simpa using hb) e) f0 f1 f3 f4 f5
    refine ⟨_, rfl, go_of (s := { s with heap := h', toks := tk }) (n := "range_iterator") st' rfl rfl (by decide) ⟨.int (lo + i), H, I1, ⟨t, ?_⟩, ⟨rfl, rfl⟩, st', fun b hb => (hf b hb).1⟩⟩
    rw [Int.mul_one]
  done := by
    intro X hP hw hK hc i pins s σ H E I hf st hg
    subst hP hw hK
    obtain ⟨f0, f1, f2, f3, f4, f5⟩ := hf it (by simp)
    exact wpAny_pyNext_range_end (I.ok.hd hc) st (by have : n ≤ i := hg; omega) fun h' eb => ⟨rfl, I.turned (t' := s.toks) (fun b o hb e => eb b o hb e) f0 f1 f3 f4 f5⟩
  self := fun _ _ _ _ _ st h => wpAny_pyIter_rangeiter st h
end L2

namespace L2
open PySem PySem.Spec PyProof.Rows
section
variable {X : Cx} {tg : Expr}
def iList (K : PySem.W.Frag) (tl : TE) : TI := fun σ H R => tl σ H fun x H1 => ∃ a, x = .ref a ∧ (∃ xs, SqL K H1 a xs) ∧ R (Itl K a) H1
theorem pi_list {l : Expr} {tl : TE} (hl : PE X l tl) : PI X tg l (iList X.K tl) := by
  intro pins s σ H R I h
  refine thn (hl pins s σ H _ I h) fun v s1 ⟨x, H1, I1, r1, q1⟩ => ?_
  obtain ⟨a, e, ⟨xs, hq⟩, q⟩ := q1
  subst e
  cases r1
  obtain ⟨its, rv, p, hz⟩ := I1.list hq
  refine wpAny_pyIter_list p.isList ?_
  refine ⟨s1.heap.objs.size, [s1.heap.objs.size], _, _, H1, rfl, I1.kept (t' := s1.toks) fun b o e => Heap.get?_push_of_some _ e, turn_list a _, ⟨_, Heap.get?_push_size _ rfl, rfl, rfl⟩, fun b hb => ?_, q⟩
  have e : b = s1.heap.objs.size := by simpa using hb
  subst e
  exact I1.fpOk (Nat.le_refl _) (I1.hok.fresh (Nat.le_refl _))
/-- a range object just made, walked -/
theorem range_it {pins : List (Addr × Obj)} {σ : St} {H : Hp} {s : Shared} {R : It → Hp → Prop} {E : Value → Shared → Prop} {lo hi : Int} {t u v : Tok} {tk : Nat} (I : Inv X pins σ H s) (h1 : -(2 ^ 62) ≤ lo) (h2 : lo < 2 ^ 62) (h3 : -(2 ^ 62) ≤ hi) (h4 : hi < 2 ^ 62)
    (q : R (Itr lo (hi - lo).toNat) H) : wpAny (model X.prog X.w) X.A (pyIter (.ref s.heap.objs.size)) (PIE X pins σ tg R) E { s with heap := s.heap.push { cls := .type "range", data := .fields #[.int lo t, .int hi u, .int 1 v] }, toks := tk } := by
  refine wpAny_pyIter_range (IsRange.new ..) (small_one h1 h2 h3 h4) ?_
  have I1 : Inv X pins σ H { s with heap := s.heap.push { cls := .type "range", data := .fields #[.int lo t, .int hi u, .int 1 v] }, toks := tk } := I.kept fun b o e => Heap.get?_push_of_some _ e
  refine ⟨(s.heap.push { cls := .type "range", data := .fields #[.int lo t, .int hi u, .int 1 v] }).objs.size, [(s.heap.push { cls := .type "range", data := .fields #[.int lo t, .int hi u, .int 1 v] }).objs.size], _, _, H, rfl,
    I1.kept (t' := tk) fun b o e => Heap.get?_push_of_some _ e, turn_range _ lo (hi - lo).toNat, ?_, fun b hb => ?_, q⟩
  · have e1 : lo + ((0 : Nat) : Int) * 1 = lo := by simp
    have e2 : (((hi - lo).toNat : Nat) : Int) - ((0 : Nat) : Int) = Builtin.Range.rangeSize lo hi 1 := by rw [rangeSize_one]; split <;> omega
    show IsRangeIter _ _ (lo + ((0 : Nat) : Int) * 1) ((((hi - lo).toNat : Nat) : Int) - ((0 : Nat) : Int)) 1
    rw [e1, e2]
    exact Heap.get?_push_size _ rfl
  · have e : b = (s.heap.push { cls := .type "range", data := .fields #[.int lo t, .int hi u, .int 1 v] }).objs.size := by simpa using hb
    subst e
    exact I1.fpOk (Nat.le_refl _) (I1.hok.fresh (Nat.le_refl _))
def iRng1 (ta : TA) : TI := fun σ H R => ta σ H fun vs H1 => ∃ j : Int, vs = [.int j] ∧ -(2 ^ 62) ≤ j ∧ j < 2 ^ 62 ∧ R (Itr 0 j.toNat) H1
theorem pi_range1 {a : Expr} {ta : TA} {p pos : Pos} (hg : Gl X "range") (hm : X.mg "range" = none) (ha : PA X [a] ta) (hs : starEach [a] X.env = [(false, eval a X.env)] := by rfl) : PI X tg (.Call (.Name "range" p) [a] [] pos) (iRng1 ta) := by
  intro pins s σ H R I h
  refine Call_ (ld_blt I hg hm boot_range (PyProof.Rows.callWith_type1 (thn (ha pos pins s σ H _ I h) fun us s1 ⟨vs, H1, I1, r1, q1⟩ => ?_) hs rfl))
  obtain ⟨j, e, q1, q2, q⟩ := q1
  subst e
  cases r1 with
  | cons r rr =>
    cases rr
    obtain ⟨t, rfl⟩ := r
    exact call_range_1 (range_it I1 (by omega) (by omega) q1 q2 (by simpa using q))
/-! ### for -/
/-- W: the invariant by the turn and a measure; N: what the body is to reach -/
def tFor (wi : TI) (g : TG) (tb : TS) : TS := fun D σ H => wi σ H fun J H1 => ∃ W : Nat → Nat → St → Hp → Prop, (∃ m, W 0 m σ H1) ∧ ∀ i m σ H, W i m σ H →
  (J.stop i H ∧ D.nx σ H) ∨ (J.go i H ∧ ∃ N : St → Hp → Prop, (∀ σ' H', N σ' H' → ∃ m', m' < m ∧ W (i + 1) m' σ' H') ∧ ∀ x H', J.yld i H x H' → g x σ H' fun σ2 H2 => tb { D with nx := N, ct := N, bk := D.nx } σ2 H2)
/-- the records at fp as they stand -/
def pinsAt (fp : List Addr) (h : Heap) : List (Addr × Obj) := fp.filterMap fun b => (h.get? b).map fun o => (b, o)
theorem mem_pinsAt {fp : List Addr} {h : Heap} {b : Addr} {o : Obj} (hb : b ∈ fp) (e : h.get? b = some o) : (b, o) ∈ pinsAt fp h := List.mem_filterMap.mpr ⟨b, hb, by rw [e]; rfl⟩
theorem of_pinsAt {fp : List Addr} {h : Heap} {p : Addr × Obj} (hp : p ∈ pinsAt fp h) : p.1 ∈ fp ∧ h.get? p.1 = some p.2 := by
  obtain ⟨b, hb, e⟩ := List.mem_filterMap.mp hp
  cases q : h.get? b with
  | none => rw [q] at e; cases e
  | some o =>
    rw [q] at e
    have e' : (b, o) = p := Option.some.inj e
    subst e'
    exact ⟨hb, q⟩
theorem Inv.pinned {pins : List (Addr × Obj)} {σ : St} {H : Hp} {s : Shared} {fp : List Addr} (I : Inv X pins σ H s) (hf : ∀ b ∈ fp, FpOk X pins H b) (ho : ∀ b ∈ fp, ∃ o, s.heap.get? b = some o ∧ ∀ v, o.data ≠ .cell v) : Inv X (pins ++ pinsAt fp s.heap) σ H s :=
  I.pins_of fun p hp => (List.mem_append.mp hp).elim (fun z => I.pin p (List.mem_append_right _ z)) fun z => by
    obtain ⟨hb, e⟩ := of_pinsAt z
    obtain ⟨f0, f1, f2, _⟩ := hf p.1 hb
    obtain ⟨o, e', d⟩ := ho p.1 hb
    rw [e] at e'; cases e'
    exact ⟨e, f0, f1, f2, d⟩
theorem Inv.unpinned {pins pl : List (Addr × Obj)} {σ : St} {H : Hp} {s : Shared} (I : Inv X (pins ++ pl) σ H s) : Inv X pins σ H s := I.pins_of fun p hp => I.pin p (List.mem_append_right _ (List.mem_append_left _ hp))
theorem ps_for {iter : Expr} {body : List Stmt} {wi : TI} {g : TG} {tb : TS} {pos : Pos} (hp : PassesOwn (model X.prog X.w) X.A X.env X.xe) (hc : X.calm = true) (hi : PI X tg iter wi) (hg : PG X tg g) (hb : PSs X body tb)
    (hs : ∀ x, foldedSetIterable iter X.env x = pure x := by intro _; rfl) : PS X (.For tg iter body [] pos) (tFor wi g tb) := by
  intro pins s σ H D I h
  refine wpAny_For (thn (hi pins s σ H _ I h) fun v s1 h1 => thn h1 fun itv s2 h2 => ?_) hs
  obtain ⟨it, fp, tn, J, H2, e, I2, T, st2, f2, W, ⟨m0, w0⟩, turn⟩ := h2
  subst e
  -- what stays true of the iterator's objects through the loop
  have stat : ∀ {H' : Hp}, (∀ b ∈ fp, H' b = none) → ∀ b ∈ fp, FpOk X pins H' b := fun hn b hb => ⟨hn b hb, (f2 b hb).2⟩
  refine codeAny_forLoop_any (fun n s' => ∃ i σ' H', Inv X pins σ' H' s' ∧ tn i s'.heap ∧ (∀ b ∈ fp, H' b = none) ∧ W i n σ' H') ?_ m0 ⟨0, σ, H2, I2, st2, fun b hb => (f2 b hb).1, w0⟩
  rintro n s3 ⟨i, σ3, H3, I3, st3, fr3, w3⟩
  rcases turn i n σ3 H3 w3 with ⟨stop, qn⟩ | ⟨go, N, hN, step⟩
  · refine wpAny_passesOwn hp (thn (T.done X rfl rfl rfl hc i pins s3 σ3 H3 X.xe I3 (stat fr3) st3 stop) fun r s4 ⟨hr, I4⟩ => ?_)
    subst hr
    exact wpAny_execs_nil ⟨σ3, H3, I4, qn⟩
  · refine wpAny_passesOwn hp (thn (T.item X rfl rfl rfl hc i pins s3 σ3 H3 X.xe I3 (stat fr3) st3 go) fun r s4 ⟨u, hr, h4⟩ => ?_)
    subst hr
    refine wpAny_passesOwn hp (thn h4 fun _ s5 ⟨x, H5, I5, r5, y5, st5, fr5⟩ => ?_)
    have I5' := I5.pinned (stat fr5) (T.obj _ _ st5)
    refine wpAny_passesOwn hp (thn (hg _ s5 σ3 H5 x u _ I5' r5 (step x H5 y5)) fun _ s6 ⟨σ6, H6, I6, q6⟩ => ?_)
    refine wpAny_passesOwn hp (thn (hb _ s6 σ6 H6 _ I6 q6) fun f s7 q7 => ?_)
    have again : ∀ {σ7 : St} {H7 : Hp}, Inv X (pins ++ pinsAt fp s5.heap) σ7 H7 s7 → N σ7 H7 → ∃ m, m < n ∧ ∃ i σ' H', Inv X pins σ' H' s7 ∧ tn i s7.heap ∧ (∀ b ∈ fp, H' b = none) ∧ W i m σ' H' := fun {σ7 H7} I7 n7 => by
      obtain ⟨m', hm, w7⟩ := hN σ7 H7 n7
      refine ⟨m', hm, i + 1, σ7, H7, I7.unpinned, T.keep _ _ _ st5 fun b hb o e => (I7.pin (b, o) (List.mem_append_right _ (List.mem_append_right _ (mem_pinsAt hb e)))).1, fun b hb => ?_, w7⟩
      obtain ⟨o, e, d⟩ := T.obj _ _ st5 b hb
      exact (I7.pin (b, o) (List.mem_append_right _ (List.mem_append_right _ (mem_pinsAt hb e)))).2.1
    cases f with
    | next => obtain ⟨σ7, H7, I7, n7⟩ := q7; exact again I7 n7
    | cont => obtain ⟨σ7, H7, I7, n7⟩ := q7; exact again I7 n7
    | brk => obtain ⟨σ7, H7, I7, q7⟩ := q7; exact ⟨σ7, H7, I7.unpinned, q7⟩
    | ret v => obtain ⟨x7, σ7, H7, I7, r7, q7⟩ := q7; exact ⟨x7, σ7, H7, I7.unpinned, r7, q7⟩
end

/-! ### the forms one uses -/
/-- over a list that the body leaves as it is -/
theorem for_list {K : PySem.W.Frag} {a : Addr} {xs : List V} {g : TG} {tb : TS} {D : Ends} {σ : St} {H : Hp} (Pv : Nat → St → Hp → Prop) (h0 : Pv 0 σ H) (hl : ∀ i σ H, i ≤ xs.length → Pv i σ H → SqL K H a xs)
    (hs : ∀ i x σ H, xs[i]? = some x → Pv i σ H → g x σ H fun σ2 H2 => tb { D with nx := Pv (i + 1), ct := Pv (i + 1), bk := D.nx } σ2 H2) (hd : ∀ σ H, Pv xs.length σ H → D.nx σ H) :
    ∃ W : Nat → Nat → St → Hp → Prop, (∃ m, W 0 m σ H) ∧ ∀ i m σ H, W i m σ H →
      ((Itl K a).stop i H ∧ D.nx σ H) ∨ ((Itl K a).go i H ∧ ∃ N : St → Hp → Prop, (∀ σ' H', N σ' H' → ∃ m', m' < m ∧ W (i + 1) m' σ' H') ∧ ∀ x H', (Itl K a).yld i H x H' → g x σ H' fun σ2 H2 => tb { D with nx := N, ct := N, bk := D.nx } σ2 H2) := by
  refine ⟨fun i m σ H => m = xs.length - i ∧ i ≤ xs.length ∧ Pv i σ H, ⟨xs.length, by simp, Nat.zero_le _, h0⟩, ?_⟩
  rintro i m σ H ⟨rfl, hi, p⟩
  have q := hl i σ H hi p
  by_cases hlt : i < xs.length
  · refine .inr ⟨⟨xs, xs[i], q, by simp [hlt]⟩, Pv (i + 1), fun σ' H' p' => ⟨xs.length - (i + 1), by omega, rfl, hlt, p'⟩, fun x H' y => ?_⟩
    obtain ⟨e, y⟩ := y
    subst e
    exact hs i x σ _ (y xs q) p
  · have e : i = xs.length := by omega
    subst e
    exact .inl ⟨⟨xs, q, Nat.le_refl _⟩, hd σ H p⟩
theorem for_range {lo : Int} {n : Nat} {g : TG} {tb : TS} {D : Ends} {σ : St} {H : Hp} (Pv : Nat → St → Hp → Prop) (h0 : Pv 0 σ H)
    (hs : ∀ i σ H, i < n → Pv i σ H → g (.int (lo + i)) σ H fun σ2 H2 => tb { D with nx := Pv (i + 1), ct := Pv (i + 1), bk := D.nx } σ2 H2) (hd : ∀ σ H, Pv n σ H → D.nx σ H) :
    ∃ W : Nat → Nat → St → Hp → Prop, (∃ m, W 0 m σ H) ∧ ∀ i m σ H, W i m σ H →
      ((Itr lo n).stop i H ∧ D.nx σ H) ∨ ((Itr lo n).go i H ∧ ∃ N : St → Hp → Prop, (∀ σ' H', N σ' H' → ∃ m', m' < m ∧ W (i + 1) m' σ' H') ∧ ∀ x H', (Itr lo n).yld i H x H' → g x σ H' fun σ2 H2 => tb { D with nx := N, ct := N, bk := D.nx } σ2 H2) := by
  refine ⟨fun i m σ H => m = n - i ∧ i ≤ n ∧ Pv i σ H, ⟨n, by simp, Nat.zero_le _, h0⟩, ?_⟩
  rintro i m σ H ⟨rfl, hi, p⟩
  by_cases hlt : i < n
  · refine .inr ⟨hlt, Pv (i + 1), fun σ' H' p' => ⟨n - (i + 1), by omega, rfl, hlt, p'⟩, fun x H' y => ?_⟩
    obtain ⟨e, y⟩ := y
    subst e y
    exact hs i σ _ hlt p
  · have e : i = n := by omega
    subst e
    exact .inl ⟨Nat.le_refl _, hd σ H p⟩
end L2

namespace L2
open PySem PySem.Spec PyProof.Rows

abbrev R2 := V → V → Hp → VK → Prop
/-- a two-place operation on values: f is binaryOp op, inplaceOp op or compareOp op -/
def OpR (X : Cx) (f : Value → Value → Sem Value) (r : R2) : Prop :=
  ∀ (pins : List (Addr × Obj)) (s : Shared) (σ : St) (H : Hp) (x y : V) (v u : Value) (Q : VK), Inv X pins σ H s → RelV x v → RelV y u → r x y H Q →
    wpAny (model X.prog X.w) X.A (f v u) (EP X pins σ Q) X.xe s
/-- a one-place operation -/
def UnR (X : Cx) (f : Value → Sem Value) (r : V → Hp → VK → Prop) : Prop :=
  ∀ (pins : List (Addr × Obj)) (s : Shared) (σ : St) (H : Hp) (x : V) (v : Value) (Q : VK), Inv X pins σ H s → RelV x v → r x H Q →
    wpAny (model X.prog X.w) X.A (f v) (EP X pins σ Q) X.xe s
/-- a call of a value that is known (a builtin, a type) with values -/
def CallR (X : Cx) (f : Value) (r : List V → Hp → VK → Prop) : Prop :=
  ∀ (pins : List (Addr × Obj)) (s : Shared) (σ : St) (H : Hp) (xs : List V) (us : List Value) (Q : VK), Inv X pins σ H s → Vals xs us → r xs H Q →
    wpAny (model X.prog X.w) X.A (call f us) (EP X pins σ Q) X.xe s
def tOp (r : R2) (ta tb : TE) : TE := fun σ H Q => ta σ H fun x H1 => tb σ H1 fun y H2 => r x y H2 Q
def tUn (r : V → Hp → VK → Prop) (ta : TE) : TE := fun σ H Q => ta σ H fun x H1 => r x H1 Q
/-- ints in, under C, and a value out -/
def rI (C : Int → Int → Prop) (g : Int → Int → V) : R2 := fun x y H Q => ∃ i j, x = .int i ∧ y = .int j ∧ C i j ∧ Q (g i j) H
def rI0 (g : Int → Int → V) : R2 := fun x y H Q => ∃ i j, x = .int i ∧ y = .int j ∧ Q (g i j) H
def rU (g : Int → V) : V → Hp → VK → Prop := fun x H Q => ∃ i, x = .int i ∧ Q (g i) H

section
variable {X : Cx} {a b c : Expr} {ta tb tc : TE} {pos : Pos}

theorem binT (ha : PE X a ta) (hb : PE X b tb) {pins : List (Addr × Obj)} {s : Shared} {σ : St} {H : Hp} {R : V → V → Hp → Prop} (I : Inv X pins σ H s)
    (h : ta σ H fun x H1 => tb σ H1 fun y H2 => R x y H2) {Q : Value → Shared → Prop} {f : Value → Value → Sem Value}
    (hf : ∀ v u s2 x y H2, Inv X pins σ H2 s2 → RelV x v → RelV y u → R x y H2 → wpAny (model X.prog X.w) X.A (f v u) Q X.xe s2) :
    wpAny (model X.prog X.w) X.A (eval a X.env) (fun v s₁ => wpAny (model X.prog X.w) X.A (eval b X.env) (fun u s₂ => wpAny (model X.prog X.w) X.A (f v u) Q X.xe s₂) X.xe s₁) X.xe s := by
  refine thn (ha pins s σ H _ I h) fun v s1 ⟨x, H1, I1, r1, q1⟩ => ?_
  refine thn (hb pins s1 σ H1 _ I1 q1) fun u s2 ⟨y, H2, I2, r2, q2⟩ => ?_
  exact hf v u s2 x y H2 I2 r1 r2 q2

theorem pe_op {op : Operator} {r : R2} (ho : OpR X (binaryOp op) r) (ha : PE X a ta) (hb : PE X b tb) : PE X (.BinOp a op b pos) (tOp r ta tb) := by
  intro pins s σ H Q I h
  exact wpAny_BinOp (binT ha hb I h fun v u s2 x y H2 I2 rx ry q => ho pins s2 σ H2 x y v u Q I2 rx ry q)
theorem pe_un {op : UnaryOp} {r : V → Hp → VK → Prop} (ho : UnR X (unaryOp op) r) (ha : PE X a ta) : PE X (.UnaryOp op a pos) (tUn r ta) := by
  intro pins s σ H Q I h
  exact UnaryOp_ (thn (ha pins s σ H _ I h) fun v s1 ⟨x, H1, I1, r1, q1⟩ => ho pins s1 σ H1 x v Q I1 r1 q1)
/-! ### ints -/
theorem opI {f : Value → Value → Sem Value} {C : Int → Int → Prop} {g : Int → Int → Int}
    (rule : ∀ (i j : Int) (t u : Tok) (s : Shared) (Q : Value → Shared → Prop) (E : Value → Shared → Prop), C i j → Q (.int (g i j) s.toks) { s with toks := s.toks + 1 } → wpAny (model X.prog X.w) X.A (f (.int i t) (.int j u)) Q E s) :
    OpR X f (rI C fun i j => .int (g i j)) := by
  intro pins s σ H x y v u Q I rx ry h
  obtain ⟨i, j, rfl, rfl, hc, q⟩ := h
  obtain ⟨t, rfl⟩ := rx
  obtain ⟨t', rfl⟩ := ry
  exact rule i j t t' s _ _ hc ⟨.int (g i j), H, I.tok _, ⟨_, rfl⟩, q⟩
theorem opI0 {f : Value → Value → Sem Value} {g : Int → Int → Int}
    (rule : ∀ (i j : Int) (t u : Tok) (s : Shared) (Q : Value → Shared → Prop) (E : Value → Shared → Prop), Q (.int (g i j) s.toks) { s with toks := s.toks + 1 } → wpAny (model X.prog X.w) X.A (f (.int i t) (.int j u)) Q E s) :
    OpR X f (rI0 fun i j => .int (g i j)) := by
  intro pins s σ H x y v u Q I rx ry h
  obtain ⟨i, j, rfl, rfl, q⟩ := h
  obtain ⟨t, rfl⟩ := rx
  obtain ⟨t', rfl⟩ := ry
  exact rule i j t t' s _ _ ⟨.int (g i j), H, I.tok _, ⟨_, rfl⟩, q⟩
theorem opB0 {f : Value → Value → Sem Value} {g : Int → Int → Bool}
    (rule : ∀ (i j : Int) (t u : Tok) (s : Shared) (Q : Value → Shared → Prop) (E : Value → Shared → Prop), Q (.bool (g i j)) s → wpAny (model X.prog X.w) X.A (f (.int i t) (.int j u)) Q E s) :
    OpR X f (rI0 fun i j => .bl (g i j)) := by
  intro pins s σ H x y v u Q I rx ry h
  obtain ⟨i, j, rfl, rfl, q⟩ := h
  obtain ⟨t, rfl⟩ := rx
  obtain ⟨t', rfl⟩ := ry
  exact rule i j t t' s _ _ ⟨.bl (g i j), H, I, rfl, q⟩

def CDiv (i j : Int) : Prop := 0 < j ∧ j < 1073741824
def CPow (i j : Int) : Prop := 0 ≤ j ∧ j ≤ 1000000 ∧ i.natAbs < 2 ^ 64
def CMul (i j : Int) : Prop := (-(2 ^ 64) < i ∧ i < 2 ^ 64) ∨ (-(2 ^ 64) < j ∧ j < 2 ^ 64)
theorem CMul.ok {i j : Int} (h : CMul i j) : IntMulOk i j := by
  rcases h with ⟨h1, h2⟩ | ⟨h1, h2⟩
  · exact .of_left (intBits_le_64 h1 h2)
  · exact .of_right (intBits_le_64 h1 h2)
theorem op_add : OpR X (binaryOp .Add) (rI0 fun i j => .int (i + j)) := opI0 fun _ _ _ _ _ _ _ q => add_int q
theorem op_sub : OpR X (binaryOp .Sub) (rI0 fun i j => .int (i - j)) := opI0 fun _ _ _ _ _ _ _ q => sub_int q
theorem op_mul : OpR X (binaryOp .Mult) (rI CMul fun i j => .int (i * j)) := opI fun _ _ _ _ _ _ _ hc q => mul_int q hc.ok
/-- // by a positive divisor -/
theorem op_fdiv : OpR X (binaryOp .FloorDiv) (rI CDiv fun i j => .int (i / j)) := opI fun i j _ _ _ _ _ hc q => by
  have h1 : (0 : Int) < j := hc.1
  have h2 : j < 1073741824 := hc.2
  exact floordiv_int (by omega) (by rw [Int.fdiv_eq_ediv_of_nonneg i (by omega)]; exact q) (.inl (PyProof.noPylong_small (by omega)))
/-- % by a positive divisor of any size -/
theorem op_mod : OpR X (binaryOp .Mod) (rI (fun _ j => 0 < j) fun i j => .int (i % j)) := opI fun i j _ _ _ _ _ hc q => by
  have h1 : (0 : Int) < j := hc
  exact mod_int' (by omega) (by rw [Int.fmod_eq_emod_of_nonneg i (by omega)]; exact q)
theorem op_pow : OpR X (binaryOp .Pow) (rI CPow fun i j => .int (i ^ j.toNat)) := opI fun _ _ _ _ _ _ _ hc q => pow_int_small hc.1 hc.2.1 hc.2.2 q
theorem unI {f : Value → Sem Value} {g : Int → Int}
    (rule : ∀ (i : Int) (t : Tok) (s : Shared) (Q : Value → Shared → Prop) (E : Value → Shared → Prop), Q (.int (g i) s.toks) { s with toks := s.toks + 1 } → wpAny (model X.prog X.w) X.A (f (.int i t)) Q E s) :
    UnR X f (rU fun i => .int (g i)) := by
  intro pins s σ H x v Q I rx h
  obtain ⟨i, rfl, q⟩ := h
  obtain ⟨t, rfl⟩ := rx
  exact rule i t s _ _ ⟨.int (g i), H, I.tok _, ⟨_, rfl⟩, q⟩
theorem un_neg : UnR X (unaryOp .USub) (rU fun i => .int (-i)) := unI fun _ _ _ _ _ q => neg_int q
/-! ### bools among ints: n += (a < b) -/
end

/-! ### comparisons -/
/-- the scalars that == tells apart as data does -/
def scal : V → V → Bool
  | .non, .non => true | .non, .int _ => true | .int _, .non => true | .non, .bl _ => true | .bl _, .non => true | .non, .str _ => true | .str _, .non => true
  | .int _, .int _ => true | .bl _, .bl _ => true | .str _, .str _ => true | .byt _, .byt _ => true
  | .int _, .str _ => true | .str _, .int _ => true | .bl _, .str _ => true | .str _, .bl _ => true
  | _, _ => false
def rEq : R2 := fun x y H Q => scal x y = true ∧ Q (.bl (decide (x = y))) H
def rNe : R2 := fun x y H Q => scal x y = true ∧ Q (.bl (!decide (x = y))) H

theorem dec_int {i j : Int} : decide (V.int i = V.int j) = (i == j) := by
  rw [Bool.eq_iff_iff]
  simp
theorem dec_bl {i j : Bool} : decide (V.bl i = V.bl j) = (i == j) := by
  rw [Bool.eq_iff_iff]
  simp
theorem dec_str {i j : Str} : decide (V.str i = V.str j) = (i == j) := by
  rw [Bool.eq_iff_iff]
  simp
theorem dec_byt {i j : Array UInt8} : decide (V.byt i = V.byt j) = (i.toList == j.toList) := by
  rw [Bool.eq_iff_iff]
  cases i
  cases j
  simp

section
variable {X : Cx} {a b c : Expr} {ta tb tc : TE} {pos : Pos}
theorem fin_bl {pins : List (Addr × Obj)} {σ : St} {H : Hp} {s : Shared} {Q : VK} {k k' : Bool} (I : Inv X pins σ H s) (q : Q (.bl k) H) (e : k = k') : EP X pins σ Q (.bool k') s := by
  subst e
  exact ⟨.bl k, H, I, rfl, q⟩
theorem op_eq : OpR X (compareOp .Eq) rEq := by
  intro pins s σ H x y v u Q I rx ry h
  obtain ⟨hs, q⟩ := h
  cases x with
  | non =>
    cases rx
    cases y with
    | non => cases ry; exact PySem.EqNone.eq_none_none (fin_bl I q (by simp))
    | bl j => cases ry; exact PySem.EqNone.eq_none_bool (fin_bl I q (by simp))
    | int j => obtain ⟨t', rfl⟩ := ry; exact PySem.EqNone.eq_none_int (fin_bl I q (by simp))
    | str j => obtain ⟨t', rfl⟩ := ry; exact PySem.EqNone.eq_none_str (fin_bl I q (by simp))
    | _ => exact absurd (show false = true from hs) Bool.false_ne_true
  | bl i =>
    cases rx
    cases y with
    | non => cases ry; exact PySem.EqNone.eq_bool_none (fin_bl I q (by simp))
    | bl j => cases ry; exact eq_bool (fin_bl I q dec_bl)
    | str j => obtain ⟨t', rfl⟩ := ry; exact PySem.EqMixed.eq_bool_str (fin_bl I q (by simp))
    | _ => exact absurd (show false = true from hs) Bool.false_ne_true
  | int i =>
    obtain ⟨t, rfl⟩ := rx
    cases y with
    | non => cases ry; exact PySem.EqNone.eq_int_none (fin_bl I q (by simp))
    | int j => obtain ⟨t', rfl⟩ := ry; exact eq_int (fin_bl I q dec_int)
    | str j => obtain ⟨t', rfl⟩ := ry; exact PySem.EqMixed.eq_int_str (fin_bl I q (by simp))
    | _ => exact absurd (show false = true from hs) Bool.false_ne_true
  | str i =>
    obtain ⟨t, rfl⟩ := rx
    cases y with
    | non => cases ry; exact PySem.EqNone.eq_str_none (fin_bl I q (by simp))
    | bl j => cases ry; exact PySem.EqMixed.eq_str_bool (fin_bl I q (by simp))
    | int j => obtain ⟨t', rfl⟩ := ry; exact PySem.EqMixed.eq_str_int (fin_bl I q (by simp))
    | str j => obtain ⟨t', rfl⟩ := ry; exact eq_str (fin_bl I q dec_str)
    | _ => exact absurd (show false = true from hs) Bool.false_ne_true
  | byt i =>
    obtain ⟨t, rfl⟩ := rx
    cases y with
    | byt j => obtain ⟨t', rfl⟩ := ry; exact PySem.W.eq_bytes (fin_bl I q dec_byt)
    | _ => exact absurd (show false = true from hs) Bool.false_ne_true
  | _ => cases y <;> exact absurd (show false = true from hs) Bool.false_ne_true
theorem op_ne : OpR X (compareOp .NotEq) rNe := by
  intro pins s σ H x y v u Q I rx ry h
  obtain ⟨hs, q⟩ := h
  cases x with
  | non =>
    cases rx
    cases y with
    | non => cases ry; exact PySem.EqNone.ne_none_none (fin_bl I q (by simp))
    | bl j => cases ry; exact PySem.EqNone.ne_none_bool (fin_bl I q (by simp))
    | int j => obtain ⟨t', rfl⟩ := ry; exact PySem.EqNone.ne_none_int (fin_bl I q (by simp))
    | str j => obtain ⟨t', rfl⟩ := ry; exact PySem.EqNone.ne_none_str (fin_bl I q (by simp))
    | _ => exact absurd (show false = true from hs) Bool.false_ne_true
  | bl i =>
    cases rx
    cases y with
    | non => cases ry; exact PySem.EqNone.ne_bool_none (fin_bl I q (by simp))
    | bl j => cases ry; exact ne_bool (fin_bl I q (congrArg not dec_bl))
    | str j => obtain ⟨t', rfl⟩ := ry; exact PySem.EqMixed.ne_bool_str (fin_bl I q (by simp))
    | _ => exact absurd (show false = true from hs) Bool.false_ne_true
  | int i =>
    obtain ⟨t, rfl⟩ := rx
    cases y with
    | non => cases ry; exact PySem.EqNone.ne_int_none (fin_bl I q (by simp))
    | int j => obtain ⟨t', rfl⟩ := ry; exact ne_int (fin_bl I q (congrArg not dec_int))
    | str j => obtain ⟨t', rfl⟩ := ry; exact PySem.EqMixed.ne_int_str (fin_bl I q (by simp))
    | _ => exact absurd (show false = true from hs) Bool.false_ne_true
  | str i =>
    obtain ⟨t, rfl⟩ := rx
    cases y with
    | non => cases ry; exact PySem.EqNone.ne_str_none (fin_bl I q (by simp))
    | bl j => cases ry; exact PySem.EqMixed.ne_str_bool (fin_bl I q (by simp))
    | int j => obtain ⟨t', rfl⟩ := ry; exact PySem.EqMixed.ne_str_int (fin_bl I q (by simp))
    | str j => obtain ⟨t', rfl⟩ := ry; exact ne_str (fin_bl I q (congrArg not dec_str))
    | _ => exact absurd (show false = true from hs) Bool.false_ne_true
  | byt i =>
    obtain ⟨t, rfl⟩ := rx
    cases y with
    | byt j => obtain ⟨t', rfl⟩ := ry; exact PySem.W.ne_bytes (fin_bl I q (congrArg not dec_byt))
    | _ => exact absurd (show false = true from hs) Bool.false_ne_true
  | _ => cases y <;> exact absurd (show false = true from hs) Bool.false_ne_true

theorem op_lt : OpR X (compareOp .Lt) (rI0 fun i j => .bl (decide (i < j))) := opB0 fun _ _ _ _ _ _ _ q => lt_int q
theorem op_le : OpR X (compareOp .LtE) (rI0 fun i j => .bl (decide (i ≤ j))) := opB0 fun _ _ _ _ _ _ _ q => le_int q
theorem op_gt : OpR X (compareOp .Gt) (rI0 fun i j => .bl (decide (j < i))) := opB0 fun _ _ _ _ _ _ _ q => gt_int q
theorem op_ge : OpR X (compareOp .GtE) (rI0 fun i j => .bl (decide (j ≤ i))) := opB0 fun _ _ _ _ _ _ _ q => ge_int q
/-- is None, is not None: the right side a value none -/
theorem op_isN : OpR X (compareOp .Is) (fun x y H Q => y = .non ∧ Q (.bl (decide (x = .non))) H) := by
  intro pins s σ H x y v u Q I rx ry h
  obtain ⟨rfl, q⟩ := h
  cases ry
  refine is_none_gen (fin_bl I q ?_)
  cases x <;> first
    | (cases rx; rfl)
    | (obtain ⟨t, rfl⟩ := rx; rfl)
theorem op_notN : OpR X (compareOp .IsNot) (fun x y H Q => y = .non ∧ Q (.bl (!decide (x = .non))) H) := by
  intro pins s σ H x y v u Q I rx ry h
  obtain ⟨rfl, q⟩ := h
  cases ry
  refine isnot_none_gen (fin_bl I q ?_)
  cases x <;> first
    | (cases rx; rfl)
    | (obtain ⟨t, rfl⟩ := rx; rfl)

/-- is, is not of two objects that are tracked lists or instances -/
def isObj : HO → Bool
  | .lst _ => true
  | .ins _ _ _ => true
  | _ => false
theorem nomark (b : Expr) {op : CmpOp} (h : op ≠ .In := by decide) (h2 : op ≠ .NotIn := by decide) : behindInMarks op b = false := by
  have e1 : (op == CmpOp.In) = false := by cases op <;> first | rfl | exact absurd rfl h
  have e2 : (op == CmpOp.NotIn) = false := by cases op <;> first | rfl | exact absurd rfl h2
  cases b <;> simp [behindInMarks, e1, e2]
/-- a comparison as a value; hm: nomark b, or (for in, not in) by with_unfolding_all rfl -/
theorem pe_cmpR {op : CmpOp} {r : R2} (ho : OpR X (compareOp op) r) (ha : PE X a ta) (hb : PE X b tb) (hm : behindInMarks op b = false) : PE X (.Compare a [op] [b] pos) (tOp r ta tb) := by
  intro pins s σ H Q I h
  exact wpAny_Compare1 (binT ha hb I h fun v u s2 x y H2 I2 rx ry q => ho pins s2 σ H2 x y v u Q I2 rx ry q) hm
/-- a reading of a value as a test -/
def tTest (t : TE) : TT := fun σ H Q => t σ H fun x H' => ∃ k, x = .bl k ∧ Q k H'
theorem pt_cmpR {op : CmpOp} {r : R2} (ho : OpR X (compareOp op) r) (ha : PE X a ta) (hb : PE X b tb) (hm : behindInMarks op b = false) : PT X (.Compare a [op] [b] pos) (tTest (tOp r ta tb)) := by
  intro pins s σ H Q I h
  refine wpAny_isTrue_Compare1 (thn (ha pins s σ H _ I h) fun v s1 ⟨x, H1, I1, r1, q1⟩ => thn (hb pins s1 σ H1 _ I1 q1) fun u s2 ⟨y, H2, I2, r2, q2⟩ =>
    thn (ho pins s2 σ H2 x y v u _ I2 r1 r2 q2) fun c s3 ⟨z, H3, I3, r3, k, e, q3⟩ => ?_) hm
  subst e
  cases r3
  exact wpAny_truthy_bool ⟨H3, I3, q3⟩
/-- a op1 b op2 c -/
def tChain (r r' : R2) (ta tb tc : TE) : TE := fun σ H Q => ta σ H fun x H1 => tb σ H1 fun y H2 => r x y H2 fun z H3 => ∃ k, z = .bl k ∧
  (if k = true then tc σ H3 fun w' H4 => r' y w' H4 Q else Q (.bl false) H3)
theorem pe_chain {op op' : CmpOp} {r r' : R2} (ho : OpR X (compareOp op) r) (ho' : OpR X (compareOp op') r') (ha : PE X a ta) (hb : PE X b tb) (hc : PE X c tc)
    (hm : lastMarks [op, op'] [b, c] = false := by with_unfolding_all rfl) : PE X (.Compare a [op, op'] [b, c] pos) (tChain r r' ta tb tc) := by
  intro pins s σ H Q I h
  refine Compare_chain (thn (ha pins s σ H _ I h) fun v s1 ⟨x, H1, I1, r1, q1⟩ => chain_link (thn (hb pins s1 σ H1 _ I1 q1) fun u s2 ⟨y, H2, I2, r2, q2⟩ =>
    thn (ho pins s2 σ H2 x y v u _ I2 r1 r2 q2) fun d s3 ⟨z, H3, I3, r3, k, e, q3⟩ => ?_)) hm
  subst e
  cases r3
  refine wpAny_truthy_bool ?_
  cases k with
  | false => exact ite_ff ⟨.bl false, H3, I3, rfl, q3⟩
  | true => exact ite_tt (chain_last (thn (hc pins s3 σ H3 _ I3 q3) fun w' s4 ⟨z', H4, I4, r4, q4⟩ => ho' pins s4 σ H4 y z' u w' Q I4 r2 r4 q4))
/-! ### truth -/
theorem line63 : (sizeLine : Nat) < 2 ^ 63 := by rw [sizeLine_eq]; decide
/-! ### strs and bytes -/
/-! ### scalar builtins, by CallR -/
theorem vals1 {x : V} {us : List Value} (r : Vals [x] us) : ∃ u, us = [u] ∧ RelV x u := by
  cases r with
  | cons r1 r2 => cases r2; exact ⟨_, rfl, r1⟩
theorem vals2 {x y : V} {us : List Value} (r : Vals [x, y] us) : ∃ u w', us = [u, w'] ∧ RelV x u ∧ RelV y w' := by
  cases r with
  | cons r1 r2 =>
    cases r2 with
    | cons r3 r4 => cases r4; exact ⟨_, _, rfl, r1, r3⟩
theorem call_abs : CallR X (.builtin "abs") (fun xs H Q => ∃ i, xs = [.int i] ∧ Q (.int (if i < 0 then -i else i)) H) := by
  intro pins s σ H xs us Q I r h
  obtain ⟨i, rfl, q⟩ := h
  obtain ⟨u, rfl, t, rfl⟩ := vals1 r
  exact call_abs_int fun u tk => ⟨.int (if i < 0 then -i else i), H, I.tok _, ⟨_, rfl⟩, q⟩
theorem call_int1 : CallR X (.type "int") (fun xs H Q => (∃ i, xs = [.int i] ∧ Q (.int i) H) ∨ ∃ k, xs = [.bl k] ∧ Q (.int (if k then 1 else 0)) H) := by
  intro pins s σ H xs us Q I r h
  rcases h with ⟨i, rfl, q⟩ | ⟨k, rfl, q⟩
  · obtain ⟨u, rfl, t, rfl⟩ := vals1 r
    exact call_int_int ⟨.int i, H, I, ⟨_, rfl⟩, q⟩
  · obtain ⟨u, rfl, r1⟩ := vals1 r
    cases r1
    exact call_int_bool ⟨.int (if k then 1 else 0), H, I.tok _, ⟨_, rfl⟩, q⟩
end
end L2

namespace L2
open PySem PySem.Spec PyProof.Rows

/-! ### an instance, its attributes a map -/
structure ObjM (h : Heap) (x dx C : Addr) (mA : Str → Option Value) : Prop where
  obj : h.get? x = some (PySem.W.instObj C dx)
  ns : h.Ns1 dx mA
  ne : dx ≠ x

theorem lookIn_ns {h : Heap} {dx : Addr} {mA : Str → Option Value} (n : h.Ns1 dx mA) : ∃ od, h.get? dx = some od ∧ ∀ name, PySem.W.lookIn name od = some (mA name) := by
  obtain ⟨o, es, ep, ho, hd, hk, _, hm⟩ := n
  refine ⟨o, ho, fun name => ?_⟩
  have e := hm name
  unfold nsFind findBy at e
  rw [← Array.find?_toList] at e
  unfold PySem.W.lookIn
  rw [hd]
  dsimp only
  split
  · rename_i y q
    rw [q] at e
    exact congrArg some e
  · rename_i q
    rw [q] at e
    have a : es.toList.any (·.refKey) = false := by
      rw [List.any_eq_false]
      intro y hy
      obtain ⟨z, t, hkey⟩ := hk y (Array.mem_toList_iff.mp hy)
      simp [DictEntry.refKey, hkey]
    have a' : ¬ es.toList.any (·.refKey) = true := by rw [a]; exact Bool.false_ne_true
    rw [if_neg a']
    exact congrArg some e

theorem ObjM.look {h : Heap} {x dx C : Addr} {mA : Str → Option Value} (I : ObjM h x dx C mA) : ∃ od, PySem.W.InstAt h x (PySem.W.instObj C dx) C (some od) ∧ ∀ name, PySem.W.lookIn name od = some (mA name) :=
  let ⟨od, ho, hl⟩ := lookIn_ns I.ns
  ⟨od, ⟨I.obj, rfl, rfl, ho⟩, hl⟩

section
variable {prog : Program} {w : World} {A : Around} {E : Value → Shared → Prop} {s : Shared} {K : PySem.W.Frag} {x dx C f : Addr} {mA : Str → Option Value} {name : Str} {v : Value}

theorem get_map {expr : Bool} {Q : Value → Shared → Prop} (X : K.In s.heap) (I : ObjM s.heap x dx C mA) (hg : PySem.W.plainGet K C name = true) (hh : PySem.W.hasDictIn K C = true)
    (ha : PySem.W.findIn K (.ref C) name = some none) (hv : mA name = some v) (hv' : PySem.W.handedIn v = true) (h : Q v { s with toks := s.toks + 1 }) :
    wpAny (model prog w) A (getAttr (.ref x) name expr) Q E s := by
  obtain ⟨od, J, hl⟩ := I.look
  exact PySem.W.get_value X J (PySem.W.plainGet_of hg).1 (PySem.W.findObj_own hh ha rfl (by rw [hl, hv])) hv' h

theorem get_meth {pl : Sem Bool} {Q : Value × List Value → Shared → Prop} (X : K.In s.heap) (I : ObjM s.heap x dx C mA) (hg : PySem.W.plainGet K C name = true)
    (hf : PySem.W.findIn K (.ref C) name = some (some (.ref f))) (ht : PySem.W.isFn K (.ref f) = true) (hv : mA name = none) (h : Q (.ref f, [.ref x]) s) :
    wpAny (model prog w) A (getMethod (.ref x) name pl) Q E s := by
  obtain ⟨od, J, hl⟩ := I.look
  exact PySem.W.method_fn X J (PySem.W.plainGet_of hg).1 (PySem.W.plainGet_of hg).2 hf (beq_iff_eq.mp ht) (by show (PySem.W.lookIn name od).map (·.isSome) = some false; rw [hl, hv]; rfl) h

theorem set_map {ns : List Str} {Q : Unit → Shared → Prop} (X : K.In s.heap) (I : ObjM s.heap x dx C mA)
    (hs : PySem.W.findIn K (.ref C) "__setattr__" = some (some (.builtin "object.__setattr__"))) (hp : PySem.W.plainOver K C = true) (ht : PySem.W.takerIn K C name = some none) (hh : PySem.W.hasDictIn K C = true)
    (hw : PySem.Within mA ns) (hsz : ns.length ≤ sizeLine)
    (h : ∀ h', ObjM h' x dx C (fun y => if y = name then some v else mA y) → Heap.SameBut dx s.heap h' → Q () { s with heap := h', toks := s.toks + 2 }) :
    wpAny (model prog w) A (setAttr (.ref x) name v) Q E s := by
  obtain ⟨od, J, hl⟩ := I.look
  refine PySem.W.set_plain X J hs (PySem.W.osa_open (s := { s with toks := s.toks + 1 }) (r := none) X J hp ht fun b => ?_)
  obtain ⟨cd, hc, hd'⟩ := PySem.W.any_some hh
  have hx : s.heap.get? x = some ⟨.ref C, some dx, .plain, #[]⟩ := I.obj
  refine wpAny_bind (wpAny_pure (wpAny_bind (wpAny_bind (wpAny_loadPart hx (wpAny_bind (PySem.W.Looks.here (s := { s with toks := s.toks + 1 }) (PySem.W.looks_clsIn X hc) ?_))))))
  rw [hd']
  refine wpAny_pure (a := some dx) (wpAny_bind (wpAny_pure (wpAny_bind ?_)))
  refine wpAny_nsSet1 (s := { s with toks := s.toks + 1 }) I.ns fun h' hn2 hs2 => ?_
  obtain ⟨oD, esD, epD, hoD, hdD, hcD⟩ := hn2.count (PySem.Within.cons name v hw)
  refine wpAny_bind (wpAny_lookBehind hoD (by rw [hdD]; exact pastItsLine_dict (Nat.le_trans hcD (by rw [List.length_cons]; omega))) ?_)
  exact wpAny_pure (h _ ⟨(hs2.2 _ (Ne.symm I.ne)).trans I.obj, hn2, I.ne⟩ hs2)

/-- C(..): the dict at the heap's end, the instance behind it; then its __init__ -/
theorem make_map {R : Result → Shared → Prop} {vs : List Value} {kw : List (Str × Value)} (X : K.In s.heap) (hm : PySem.W.makesIn K C = true)
    (hi : PySem.W.findIn K (.ref C) "__init__" = some (some (.ref f))) (hf : PySem.W.typeIn K (.ref f) = some (.type "function"))
    (h : codeAny (model prog w) (A.under (.builtin "type.__call__" ⟨.ref C :: vs, kw⟩)) (.call (.ref f) ⟨.ref (s.heap.objs.size + 1) :: vs, kw⟩) (PySem.W.InitBack (s.heap.objs.size + 1) R)
      { s with heap := (s.heap.push PySem.W.emptyDict).push (PySem.W.instObj C s.heap.objs.size) }) :
    codeAny (model prog w) A (.call (.ref C) ⟨vs, kw⟩) R s := by
  obtain ⟨hh, g, d, t, os⟩ := s
  exact PySem.W.make_core (PySem.W.makes_of X hm) (PySem.W.looks_findIn X hi) (fun self => PySem.W.bind_fn X self hf) (.inl rfl) h
end

/-! ### the attributes as a list of pairs -/
def putF (f : Str) (v : V) : List (Str × V) → List (Str × V)
  | [] => [(f, v)]
  | (g, x) :: r => if g = f then (g, v) :: r else (g, x) :: putF f v r
theorem lookup_putF (f g : Str) (v : V) : ∀ fs : List (Str × V), (putF f v fs).lookup g = if g = f then some v else fs.lookup g
  | [] => by
    show List.lookup g [(f, v)] = _
    by_cases h : g = f
    · have hb : (g == f) = true := beq_iff_eq.mpr h
      simp only [List.lookup, hb, if_pos h]
    · have hb : (g == f) = false := beq_eq_false_iff_ne.mpr h
      simp only [List.lookup, hb, if_neg h]
  | (k, x) :: r => by
    have ih := lookup_putF f g v r
    rw [show putF f v ((k, x) :: r) = (if k = f then (k, v) :: r else (k, x) :: putF f v r) from rfl]
    by_cases hk : k = f
    · rw [if_pos hk]
      by_cases h : g = k
      · have hb : (g == k) = true := beq_iff_eq.mpr h
        simp only [List.lookup, hb, if_pos (h.trans hk)]
      · have hb : (g == k) = false := beq_eq_false_iff_ne.mpr h
        simp only [List.lookup, hb, if_neg (fun e : g = f => h (e.trans hk.symm))]
    · rw [if_neg hk]
      by_cases h : g = k
      · have hb : (g == k) = true := beq_iff_eq.mpr h
        simp only [List.lookup, hb, if_neg (fun e : g = f => hk (h.symm.trans e))]
      · have hb : (g == k) = false := beq_eq_false_iff_ne.mpr h
        simp only [List.lookup, hb]
        exact ih
theorem keys_putF (f : Str) (v : V) : ∀ fs : List (Str × V), f ∈ (putF f v fs).map (·.1) ∧ ∀ g, g ∈ fs.map (·.1) → g ∈ (putF f v fs).map (·.1)
  | [] => ⟨by simp [putF], fun g h => by simp at h⟩
  | (k, x) :: r => by
    obtain ⟨i1, i2⟩ := keys_putF f v r
    rw [show putF f v ((k, x) :: r) = (if k = f then (k, v) :: r else (k, x) :: putF f v r) from rfl]
    by_cases hk : k = f
    · rw [if_pos hk]
      subst hk
      exact ⟨by simp, fun g h => by simpa using h⟩
    · rw [if_neg hk]
      refine ⟨?_, fun g h => ?_⟩
      · rw [List.map_cons]
        exact List.mem_cons_of_mem _ i1
      · rw [List.map_cons] at h ⊢
        rcases List.mem_cons.mp h with e | e
        · exact List.mem_cons.mpr (.inl e)
        · exact List.mem_cons_of_mem _ (i2 g e)
theorem length_putF (f : Str) (v : V) : ∀ fs : List (Str × V), (putF f v fs).length ≤ fs.length + 1
  | [] => by simp [putF]
  | (k, x) :: r => by
    have ih := length_putF f v r
    rw [show putF f v ((k, x) :: r) = (if k = f then (k, v) :: r else (k, x) :: putF f v r) from rfl]
    by_cases hk : k = f
    · rw [if_pos hk, List.length_cons, List.length_cons]; omega
    · rw [if_neg hk, List.length_cons, List.length_cons]; omega

theorem RelO.some_of {v : V} {o : Option Value} (r : RelO (some v) o) : ∃ u, o = some u ∧ RelV v u := by
  cases o with
  | none => exact (show False from r).elim
  | some u => exact ⟨u, rfl, r⟩
theorem RelO.none_of {o : Option Value} (r : RelO none o) : o = none := by
  cases o with
  | none => rfl
  | some u => exact (show False from r).elim
theorem handed_of {v : V} {u : Value} (r : RelV v u) : PySem.W.handedIn u = true := by
  cases v with
  | non => cases (show u = Value.none from r); rfl
  | bl b => cases (show u = Value.bool b from r); rfl
  | int i => obtain ⟨t, e⟩ := (show ∃ t, u = Value.int i t from r); cases e; rfl
  | str x => obtain ⟨t, e⟩ := (show ∃ t, u = Value.str x t from r); cases e; rfl
  | byt b => obtain ⟨t, e⟩ := (show ∃ t, u = Value.bytes b t from r); cases e; rfl
  | flt b => obtain ⟨t, e⟩ := (show ∃ t, u = Value.float b t from r); cases e; rfl
  | ref a => cases (show u = Value.ref a from r); rfl
  | ty n => cases (show u = Value.type n from r); rfl

section
variable {P : Program} {w : World} {H H' : Hp} {h h' : Heap} {a C dx : Addr} {fs fs' : List (Str × V)}
theorem ins_get (hok : HOk P w H h) (e : H a = some (.ins C dx fs)) : ∃ mA, ObjM h a dx C mA ∧ (∀ f, RelO (fs.lookup f) (mA f)) ∧ PySem.Within mA (fs.map (·.1)) ∧ fs.length ≤ 1000 ∧ H dx = some (.own a) := by
  obtain ⟨d, z, ne, ob, mA, n, r, q⟩ := (show ObjOk P w H h a (.ins C dx fs) from hok a _ e)
  exact ⟨mA, ⟨ob, n, ne⟩, r, q, z, d⟩
end

/-! ### what of the text a class must have -/
structure Cls (K : PySem.W.Frag) (C : Addr) : Prop where
  pg : PySem.W.plainGet K C Str.empty = true
  hd : PySem.W.hasDictIn K C = true
  po : PySem.W.plainOver K C = true
  sa : PySem.W.findIn K (.ref C) "__setattr__" = some (some (.builtin "object.__setattr__"))
theorem Cls.get {K : PySem.W.Frag} {C : Addr} (c : Cls K C) (f : Str) : PySem.W.plainGet K C f = true := c.pg
/-- no class of it has the name -/
def NoAttr (K : PySem.W.Frag) (C : Addr) (f : Str) : Prop := PySem.W.findIn K (.ref C) f = some none
theorem NoAttr.taker {K : PySem.W.Frag} {C : Addr} {f : Str} (n : NoAttr K C f) : PySem.W.takerIn K C f = some none := by
  unfold PySem.W.takerIn
  rw [show PySem.W.findIn K (.ref C) f = some none from n]
  rfl
/-- a method: a plain def of the class or of one above it -/
structure Meth (K : PySem.W.Frag) (C : Addr) (m : Str) (f : Addr) : Prop where
  at_ : PySem.W.findIn K (.ref C) m = some (some (.ref f))
  fn : PySem.W.isFn K (.ref f) = true
  kp : PySem.W.keepIn K (.ref f) = true

section
variable {X : Cx} {pins : List (Addr × Obj)} {σ : St} {H : Hp} {s : Shared} {a C dx : Addr} {fs : List (Str × V)} {f : Str} {v : V} {A : Around} {E : Value → Shared → Prop}

theorem getattr_ok {b : Bool} {Q : Value → Shared → Prop} (I : Inv X pins σ H s) (e : H a = some (.ins C dx fs)) (c : Cls X.K C) (n : NoAttr X.K C f) (l : fs.lookup f = some v)
    (h : ∀ u s', Inv X pins σ H s' → RelV v u → Q u s') : wpAny (model X.prog X.w) A (getAttr (.ref a) f b) Q E s := by
  obtain ⟨mA, O, r, _, _, _⟩ := ins_get I.hok e
  obtain ⟨u, hu, ru⟩ := RelO.some_of (v := v) (o := mA f) (by rw [← l]; exact r f)
  exact get_map I.kIn O (c.get f) c.hd n hu (handed_of ru) (h u _ (I.tok _) ru)

theorem getmeth_ok {m : Str} {g : Addr} {pl : Sem Bool} {Q : Value × List Value → Shared → Prop} (I : Inv X pins σ H s) (e : H a = some (.ins C dx fs)) (c : Cls X.K C) (k : Meth X.K C m g) (l : fs.lookup m = none)
    (h : Q (.ref g, [.ref a]) s) : wpAny (model X.prog X.w) A (getMethod (.ref a) m pl) Q E s := by
  obtain ⟨mA, O, r, _, _, _⟩ := ins_get I.hok e
  have hn : mA m = none := RelO.none_of (by rw [← l]; exact r m)
  exact get_meth I.kIn O (c.get m) k.at_ k.fn hn h

theorem setattr_ok {y : V} {u : Value} {Q : Unit → Shared → Prop} (I : Inv X pins σ H s) (e : H a = some (.ins C dx fs)) (c : Cls X.K C) (n : NoAttr X.K C f) (hl : fs.length < 1000) (ry : RelV y u)
    (h : ∀ s', Inv X pins σ (upd H a (.ins C dx (putF f y fs))) s' → Q () s') : wpAny (model X.prog X.w) A (setAttr (.ref a) f u) Q E s := by
  obtain ⟨mA, O, r, wi, _, ho⟩ := ins_get I.hok e
  have hz : (fs.map (·.1)).length ≤ sizeLine := by rw [List.length_map, sizeLine_eq]; omega
  refine set_map I.kIn O c.sa c.po n.taker c.hd wi hz fun h' O' sb => h _ ?_
  have hd : ∃ o, h'.get? dx = some o := let ⟨o, _, _, e', _⟩ := O'.ns; ⟨o, e'⟩
  refine I.write (x := a) (e := dx) (by rw [e]; exact True.intro) (.inr ho) (fun b q hb z => (sb.2 b hb).trans z) hd ?_
  refine ⟨by rw [upd_ne O.ne]; exact ho, ?_, O.ne, O'.obj, _, O'.ns, fun g => ?_, fun g hg => ?_⟩
  · have := length_putF f y fs; omega
  · show RelO ((putF f y fs).lookup g) (if g = f then some u else mA g)
    rw [lookup_putF]
    by_cases q : g = f
    · rw [if_pos q, if_pos q]; exact ry
    · rw [if_neg q, if_neg q]; exact r g
  · by_cases q : g = f
    · rw [q]; exact (keys_putF f y fs).1
    · refine (keys_putF f y fs).2 g (wi g fun z => hg ?_)
      show (if g = f then some u else mA g) = none
      rw [if_neg q]; exact z

/-- a new instance, tracked, without attributes -/
theorem Inv.made (I : Inv X pins σ H s) : Inv X pins σ (upd (upd H s.heap.objs.size (.own (s.heap.objs.size + 1))) (s.heap.objs.size + 1) (.ins C s.heap.objs.size []))
    { s with heap := (s.heap.push PySem.W.emptyDict).push (PySem.W.instObj C s.heap.objs.size) } := by
  have e1 : (s.heap.push PySem.W.emptyDict).get? s.heap.objs.size = some PySem.W.emptyDict := Heap.get?_push_size s.heap rfl
  have e2 : ((s.heap.push PySem.W.emptyDict).push (PySem.W.instObj C s.heap.objs.size)).get? (s.heap.objs.size + 1) = some (PySem.W.instObj C s.heap.objs.size) := by
    have := Heap.get?_push_size (s.heap.push PySem.W.emptyDict) (o := PySem.W.instObj C s.heap.objs.size) rfl
    rwa [Heap.size_push] at this
  have e3 : (s.heap.push PySem.W.emptyDict).Ns s.heap.objs.size (fun _ => none) := ⟨PySem.W.emptyDict, #[], _, e1, rfl, (fun e he => absurd he (by simp)), fun _ => rfl⟩
  have I1 := I.laid (a := s.heap.objs.size) (o := .own (s.heap.objs.size + 1)) (h' := s.heap.push PySem.W.emptyDict) (t' := s.toks) (fun b u q => Heap.get?_push_of_some _ q) (Nat.le_refl _) ⟨_, e1⟩
  refine I1.laid (a := s.heap.objs.size + 1) (o := .ins C s.heap.objs.size []) (t' := s.toks) (fun b u q => Heap.get?_push_of_some _ q) (Nat.le_of_eq (Heap.size_push _ _)) ?_
  have ne : s.heap.objs.size ≠ s.heap.objs.size + 1 := Nat.ne_of_lt (Nat.lt_succ_self _)
  refine ⟨by rw [upd_ne ne, upd_same], Nat.zero_le _, ne, e2, fun _ => none, (Heap.Ns1.of_empty e3).at fun o q => Heap.get?_push_of_some _ q, fun _ => True.intro, fun y hy => absurd rfl hy⟩

/-- e.f where nothing but the object is asked: through attributeBase (super) and the last hold -/
theorem attr_of {prog : Program} {w : World} {env : Env} {e : Expr} {f : Str} {pos : Pos} {s : Shared} {Q : Value → Shared → Prop} (hb : attributeBase e f env (eval e env) = eval e env)
    (h : wpAny (model prog w) A (eval e env) (fun o s₁ => wpAny (model prog w) A (getAttr o f true) Q E s₁) E s) : wpAny (model prog w) A (eval (.Attribute e f pos) env) Q E s :=
  Attribute_any_ h (by rw [arm_eval_Attribute, hb])
end

/-! ### readings and rules -/
/-- e.f, an attribute of the instance -/
def tFld (K : PySem.W.Frag) (ta : TE) (f : Str) : TE := fun σ H Q => ta σ H fun x H1 => ∃ a C dx fs v, x = .ref a ∧ H1 a = some (.ins C dx fs) ∧ Cls K C ∧ NoAttr K C f ∧ fs.lookup f = some v ∧ Q v H1
/-- e.f = value -/
def sFld (K : PySem.W.Frag) (ta tv : TE) (f : Str) : TS := fun D σ H => tv σ H fun y H1 => ta σ H1 fun x H2 => ∃ a C dx fs, x = .ref a ∧ H2 a = some (.ins C dx fs) ∧ Cls K C ∧ NoAttr K C f ∧ fs.length < 1000 ∧
  D.nx σ (upd H2 a (.ins C dx (putF f y fs)))
/-- an augmented operator on two values -/
def InOp (X : Cx) (op : Operator) (rd : V → V → Hp → VK → Prop) : Prop :=
  ∀ (pins : List (Addr × Obj)) (s : Shared) (σ : St) (H : Hp) (x y : V) (u v : Value) (Q : VK), Inv X pins σ H s → RelV x u → RelV y v → rd x y H Q → wpAny (model X.prog X.w) X.A (inplaceOp op u v) (EP X pins σ Q) X.xe s
/-- e.f op= value -/
def sFldAug (K : PySem.W.Frag) (ta tv : TE) (rd : V → V → Hp → VK → Prop) (f : Str) : TS := fun D σ H => ta σ H fun x H1 => ∃ a C dx fs v, x = .ref a ∧ H1 a = some (.ins C dx fs) ∧ Cls K C ∧ NoAttr K C f ∧ fs.lookup f = some v ∧
  tv σ H1 fun y H2 => rd v y H2 fun z H3 => ∃ dx' fs', H3 a = some (.ins C dx' fs') ∧ fs'.length < 1000 ∧ D.nx σ (upd H3 a (.ins C dx' (putF f z fs')))

section
variable {X : Cx} {o e value : Expr} {f : Str} {pos pos' tpos : Pos} {ta tv : TE}
theorem pe_fld (he : PE X e ta) (hb : attributeBase e f X.env (eval e X.env) = eval e X.env) : PE X (.Attribute e f pos) (tFld X.K ta f) := by
  intro pins s σ H Q I h
  refine attr_of hb (thn (he pins s σ H _ I h) fun u s1 ⟨x, H1, I1, rx, a, C, dx, fs, v, ex, ea, c, n, l, q⟩ => ?_)
  subst ex
  obtain rfl : u = Value.ref a := rx
  exact getattr_ok I1 ea c n l fun u' s2 I2 ru => ⟨v, H1, I2, ru, q⟩
theorem ps_fld (ha : PE X o ta) (hv : PE X value tv) (hs : swapsWith value (some (.Attribute o f pos')) pos.line X.env = pure false) : PS X (.Assign [.Attribute o f pos'] value pos) (sFld X.K ta tv f) := by
  intro pins s σ H D I h
  refine plainObj_wpAny_Assign_Attribute (thn (hv pins s σ H _ I h) fun u s1 ⟨y, H1, I1, ry, q⟩ => thn (ha pins s1 σ H1 _ I1 q) fun ov s2 ⟨x, H2, I2, rx, a, C, dx, fs, ex, ea, c, n, l, q2⟩ => ?_) hs
  subst ex
  obtain rfl : ov = Value.ref a := rx
  exact setattr_ok I2 ea c n l ry fun s3 I3 => ⟨σ, _, I3, q2⟩
theorem ps_fldaug {op : Operator} {rd : V → V → Hp → VK → Prop} (ha : PE X o ta) (hv : PE X value tv) (hop : InOp X op rd) : PS X (.AugAssign (.Attribute o f tpos) op value pos) (sFldAug X.K ta tv rd f) := by
  intro pins s σ H D I h
  refine wpAny_AugAssign_AttributeAny (thn (ha pins s σ H _ I h) fun ov s1 ⟨x, H1, I1, rx, a, C, dx, fs, v, ex, ea, c, n, l, q⟩ => ?_)
  subst ex
  obtain rfl : ov = Value.ref a := rx
  refine getattr_ok I1 ea c n l fun u s2 I2 ru => thn (hv pins s2 σ H1 _ I2 q) fun w3 s3 ⟨y, H2, I3, ry, q3⟩ => thn (hop pins s3 σ H2 v y u w3 _ I3 ru ry q3) fun w4 s4 ⟨z, H3, I4, rz, dx', fs', ea', l', q4⟩ => ?_
  exact setattr_ok I4 ea' c n l' rz fun s5 I5 => ⟨σ, _, I5, q4⟩
end

/-! ### isinstance -/
section
variable {X : Cx} {pins : List (Addr × Obj)} {σ : St} {H : Hp} {s : Shared} {A : Around} {E : Value → Shared → Prop} {Q : Value → Shared → Prop} {c : Value} {b : Bool}
/-- the type of a value, as the fragment's deciders take it; for an instance its class -/
inductive TyOf (K : PySem.W.Frag) (H : Hp) : V → Value → Prop where
  | non : TyOf K H .non (.type "NoneType")
  | bl (x : Bool) : TyOf K H (.bl x) (.type "bool")
  | int (i : Int) : TyOf K H (.int i) (.type "int")
  | str (x : Str) : TyOf K H (.str x) (.type "str")
  | flt (x : UInt64) : TyOf K H (.flt x) (.type "float")
  | lst {a : Addr} {xs : List V} (e : H a = some (.lst xs)) : TyOf K H (.ref a) (.type "list")
  | frz {a : Addr} {o : Obj} {xs : List V} (e : H a = some (.frz o (.lst xs))) : TyOf K H (.ref a) (.type "list")
  | tup {a : Addr} {xs : List V} (e : H a = some (.tup xs)) : TyOf K H (.ref a) (.type "tuple")
  | dK {a : Addr} {kvs : List (Key × V)} (e : H a = some (.dK kvs)) : TyOf K H (.ref a) (.type "dict")
  | dT {a : Addr} {kvs : List (List Key × V)} (e : H a = some (.dT kvs)) : TyOf K H (.ref a) (.type "dict")
  | ins {a C dx : Addr} {fs : List (Str × V)} (e : H a = some (.ins C dx fs)) (cl : Cls K C) (ha : PySem.W.findIn K (.ref C) "__class__" = some (some (.builtin "object.__class__")))
      (hn : PySem.W.specialIn K (.builtin "object.__class__") "__get__" = some (some (.builtin "getset_descriptor.__get__"))) (htk : PySem.W.takesIn K (.builtin "object.__class__") = some true)
      (hm : PySem.W.mroIn K C (.type "object") = some true) : TyOf K H (.ref a) (.ref C)
/-- isinstance(x, c) for one class c, a built-in or an own one: kitOne's answer -/
theorem isinst_ok {x : V} {u t : Value} (I : Inv X pins σ H s) (rx : RelV x u) (ty : TyOf X.K H x t) (e : PySem.W.kitOne X.K t c = some b) (h : ∀ tk, Q (.bool b) { s with toks := tk }) :
    wpAny (model X.prog X.w) A (call (.builtin "isinstance") [u, c]) Q E s := by
  cases ty with
  | non => cases (show u = Value.none from rx); exact PySem.W.kia_one PySem.W.kitx_none I.kIn True.intro e (fun z => nomatch z) h
  | bl y => cases (show u = Value.bool y from rx); exact PySem.W.kia_one PySem.W.kitx_bool I.kIn True.intro e (fun z => nomatch z) h
  | int i => obtain ⟨t, q⟩ := (show ∃ t, u = Value.int i t from rx); cases q; exact PySem.W.kia_one PySem.W.kitx_int I.kIn True.intro e (fun z => nomatch z) h
  | str y => obtain ⟨t, q⟩ := (show ∃ t, u = Value.str y t from rx); cases q; exact PySem.W.kia_one PySem.W.kitx_str I.kIn True.intro e (fun z => nomatch z) h
  | flt y => obtain ⟨t, q⟩ := (show ∃ t, u = Value.float y t from rx); cases q; exact PySem.W.kia_one PySem.W.kitx_float I.kIn True.intro e (fun z => nomatch z) h
  | @lst a xs ea =>
    cases (show u = Value.ref a from rx)
    obtain ⟨_, _, n, _, h1⟩ := (show ObjOk X.prog X.w H s.heap a (.lst xs) from I.hok a _ ea)
    exact PySem.W.kia_one PySem.W.kitx_list I.kIn ⟨_, h1, rfl⟩ e (fun z => nomatch z) h
  | @frz a ob xs ea =>
    cases (show u = Value.ref a from rx)
    obtain ⟨_, _, _, n, _, h1⟩ := (show ObjOk X.prog X.w H s.heap a (.frz ob (.lst xs)) from I.hok a _ ea)
    exact PySem.W.kia_one PySem.W.kitx_list I.kIn ⟨_, h1, rfl⟩ e (fun z => nomatch z) h
  | @tup a xs ea =>
    cases (show u = Value.ref a from rx)
    obtain ⟨_, _, _, p⟩ := (show ObjOk X.prog X.w H s.heap a (.tup xs) from I.hok a _ ea)
    obtain ⟨o, h1, h2, _⟩ := p
    exact PySem.W.kia_one PySem.W.kitx_tuple I.kIn ⟨o, h1, h2⟩ e (fun z => nomatch z) h
  | @dK a kvs ea =>
    cases (show u = Value.ref a from rx)
    obtain ⟨_, _, vs, _, p⟩ := (show ObjOk X.prog X.w H s.heap a (.dK kvs) from I.hok a _ ea)
    obtain ⟨o, es, ep, h1, h2, _⟩ := p
    exact PySem.W.kia_one PySem.W.kitx_dict I.kIn ⟨o, h1, h2.1⟩ e (fun z => nomatch z) h
  | @dT a kvs ea =>
    cases (show u = Value.ref a from rx)
    obtain ⟨_, _, xs, _, o, es, ep, h1, h2, _⟩ := (show ObjOk X.prog X.w H s.heap a (.dT kvs) from I.hok a _ ea)
    exact PySem.W.kia_one PySem.W.kitx_dict I.kIn ⟨o, h1, h2.1⟩ e (fun z => nomatch z) h
  | @ins a C dx fs ea cl ha hn htk hm =>
    cases (show u = Value.ref a from rx)
    obtain ⟨mA, O, _⟩ := ins_get I.hok ea
    obtain ⟨od, J, _⟩ := O.look
    exact PySem.W.kia_one (PySem.W.kitx_own (cl.get _) cl.hd ha hn htk hm) I.kIn J e (fun z => nomatch z) h
end
end L2

namespace L2
open PySem PySem.Spec PyProof.Rows

/-! ### room -/
structure Room (k : Nat) (A : Around) : Prop where
  hd : A.handled = none
  dp : A.depth + 3 * k + 5 < recursionLimit
  un : A.units + 16 * k + 200 < cLine
theorem Room.mono {j k : Nat} {A : Around} (r : Room k A) (h : j ≤ k) : Room j A := ⟨r.hd, by have := r.dp; omega, by have := r.un; omega⟩
theorem Room.deeper {k : Nat} {A : Around} (r : Room (k + 1) A) (env : Env) : Room k (A.deeper env) :=
  ⟨r.hd, by have := r.dp; show A.depth + 1 + 3 * k + 5 < _; omega, by have := r.un; show A.units + 3 + 16 * k + 200 < _; omega⟩
theorem make_depth {A : Around} {C : Addr} {us : List Value} {kw : List (Str × Value)} : (A.under (.builtin "type.__call__" ⟨.ref C :: us, kw⟩)).depth = A.depth + 1 := by
  first | rfl | simp [Around.under, Code.weight, Code.isCreation, Code.isGuard, Code.isCaller, Code.frames, Code.isFrame, guardIds]
theorem make_units {A : Around} {C : Addr} {us : List Value} {kw : List (Str × Value)} : (A.under (.builtin "type.__call__" ⟨.ref C :: us, kw⟩)).units = A.units + 1 := by
  first | rfl | simp [Around.under, Code.cUnits, Code.frames, Code.isFrame]
theorem Room.make {k : Nat} {A : Around} (r : Room (k + 1) A) (C : Addr) (us : List Value) (kw : List (Str × Value)) : Room k (A.under (.builtin "type.__call__" ⟨.ref C :: us, kw⟩)) :=
  ⟨r.hd, by have := r.dp; rw [make_depth]; omega, by have := r.un; rw [make_units]; omega⟩
theorem Room.depth {k : Nat} {A : Around} (r : Room k A) : A.depth < recursionLimit := by have := r.dp; omega
theorem Room.units {k : Nat} {A : Around} (r : Room k A) : A.units + 64 < cLine := by have := r.un; omega
/-! ### argument lists and displays -/
def tNil : TA := fun _ H Q => Q [] H
def tCons (ta : TE) (tr : TA) : TA := fun σ H Q => ta σ H fun x H1 => tr σ H1 fun xs H2 => Q (x :: xs) H2
section
variable {X : Cx} {e : Expr} {es : List Expr} {te : TE} {t : TA} {pos : Pos}
theorem pa_nil : PA X [] tNil := fun _ _ _ _ H Q I h => Calls.spliced_nil ⟨[], H, I, .nil, h⟩
theorem pa_cons (ha : PE X e te) (hr : PA X es t) (hs : starEach (e :: es) X.env = (false, eval e X.env) :: starEach es X.env := by rfl) : PA X (e :: es) (tCons te t) := by
  intro pos pins s σ H Q I h
  rw [hs]
  show wpAny _ _ (spliced ((false, eval e X.env) :: backTo pos (starEach es X.env))) _ _ s
  refine Calls.spliced_cons (thn (ha pins s σ H _ I h) fun u s1 ⟨x, H1, I1, r1, q1⟩ => ?_)
  exact thn (hr pos pins s1 σ H1 _ I1 q1) fun us s2 ⟨xs, H2, I2, r2, q2⟩ => ⟨x :: xs, H2, I2, .cons r1 r2, q2⟩

/-- a tuple, a list of written items -/
def tTup (t : TA) : TE := fun σ H Q => t σ H fun xs H1 => xs.length ≤ sizeLine ∧ ∀ p, H1 p = none → Q (.ref p) (upd H1 p (.tup xs))
def tLst (t : TA) : TE := fun σ H Q => t σ H fun xs H1 => xs.length ≤ sizeLine ∧ ∀ p, H1 p = none → Q (.ref p) (upd H1 p (.lst xs))
theorem pe_tup {x1} (h : PA X es t) : PE X (.Tuple es x1 pos) (tTup t) := by
  intro pins s σ H Q I hq
  refine wpAny_Tuple_spliced (thn (h pos pins s σ H _ I hq) fun us s1 ⟨xs, H1, I1, r, z, q⟩ => ⟨by rw [← r.length]; exact z, ?_⟩)
  have hf : H1 s1.heap.objs.size = none := I1.hok.fresh (Nat.le_refl _)
  refine ⟨.ref s1.heap.objs.size, upd H1 s1.heap.objs.size (.tup xs), I1.laid (t' := s1.toks) (fun b u e => Heap.get?_push_of_some _ e) (Nat.le_refl _) ?_, rfl, q _ hf⟩
  exact ⟨z, us, r, ⟨_, Heap.get?_push_size _ rfl, rfl, _, rfl⟩⟩
theorem pe_lst (h : PA X es t) : PE X (.List es pos) (tLst t) := by
  intro pins s σ H Q I hq
  refine wpAny_List_spliced (thn (h pos pins s σ H _ I hq) fun us s1 ⟨xs, H1, I1, r, z, q⟩ => ⟨by rw [← r.length]; exact z, ?_⟩)
  have hf : H1 s1.heap.objs.size = none := I1.hok.fresh (Nat.le_refl _)
  refine ⟨.ref s1.heap.objs.size, upd H1 s1.heap.objs.size (.lst xs), I1.laid (t' := s1.toks) (fun b u e => Heap.get?_push_of_some _ e) (Nat.le_refl _) ?_, rfl, q _ hf⟩
  exact ⟨z, us, 0, r, Heap.get?_push_size _ rfl⟩
end

/-! ### what a def promises -/
/-- a def's promise: the bound arguments in the parameters' order, the heap, the wanted end, the wanted exception -/
abbrev Sp := List V → Hp → VK → XK → Prop
/-- how an exception lies behind a call (file 08 gives it): the callers' frames, abstract heap and state ahead of the call, the wish, the exception, the state -/
abbrev CXT := List Env → Hp → Shared → XK → Value → Shared → Prop

/-- the state at a call -/
structure Env0 (P : Program) (w : World) (K : PySem.W.Frag) (mg : Str → Option Value) (base : Heap) (A : Around) (outer : List Env) (s : Shared) (H : Hp) : Prop where
  frames : A.frames = some outer
  mod : Mod K mg base
  bs : ∀ b o, base.get? b = some o → s.heap.get? b = some o ∧ H b = none
  bsz : base.objs.size ≤ s.heap.objs.size
  funs : s.heap.FunFrames base outer
  frf : ∀ b ∈ frs outer, H b = none
  hok : HOk P w H s.heap
  bare : AllBare s.gens
/-- a call's end -/
def CE (outer : List Env) (P : Program) (w : World) (H : Hp) (s : Shared) (Q : VK) (u : Value) (s' : Shared) : Prop :=
  ∃ v H', s'.os = s.os ∧ AllBare s'.gens ∧ Un (frs outer) [] H H' s.heap s'.heap ∧ HOk P w H' s'.heap ∧ RelV v u ∧ Q v H'
def CR (CX : CXT) (outer : List Env) (P : Program) (w : World) (H : Hp) (s : Shared) (Q : VK) (E : XK) (r : Result) (s' : Shared) : Prop :=
  match r with
  | .ok (.ret u) => CE outer P w H s Q u s'
  | .ok _ => False
  | .error e => CX outer H s E e s'
structure FnOk (P : Program) (w : World) (K : PySem.W.Frag) (mg : Str → Option Value) (base : Heap) (CX : CXT) (k : Nat) (f : Addr) (fd : FuncData) (ps : List Str) (sp : Sp) : Prop where
  len : ∀ vs H Q E, sp vs H Q E → vs.length = ps.length
  run : ∀ (A : Around) (outer : List Env) (s : Shared) (H : Hp) (args : Args) (us : List Value) (vs : List V) (Q : VK) (E : XK), Room k A → Env0 P w K mg base A outer s H → BindsTo s fd args (ps.zip us) → Vals vs us → sp vs H Q E →
    codeAny (model P w) A (.call (.ref f) args) (CR CX outer P w H s Q E) s
theorem Env0.make {P : Program} {w : World} {K : PySem.W.Frag} {mg : Str → Option Value} {base : Heap} {A : Around} {outer : List Env} {s : Shared} {H : Hp} (e : Env0 P w K mg base A outer s H) (C : Addr) (us : List Value) (kw : List (Str × Value)) :
    Env0 P w K mg base (A.under (.builtin "type.__call__" ⟨.ref C :: us, kw⟩)) outer s H := ⟨by first | exact e.frames | (simpa [Around.under, Code.envs, Code.isFrame, pushEnvs] using e.frames), e.mod, e.bs, e.bsz, e.funs, e.frf, e.hok, e.bare⟩
section
variable {X : Cx} {pins : List (Addr × Obj)} {σ : St} {H : Hp} {s s' : Shared}
/-- from a body: what a callee wants -/
theorem Inv.env0 (I : Inv X pins σ H s) : Env0 X.prog X.w X.K X.mg X.base X.A X.stack s H :=
  ⟨I.ok.frames, I.ok.mod, I.bs, Nat.le_trans I.ok.bsz I.sz, I.stack, I.stkFree, I.hok, I.bare⟩
/-- behind a call -/
theorem Inv.after {Q : VK} {u : Value} (I : Inv X pins σ H s) (h : CE X.stack X.prog X.w H s Q u s') : EP X pins σ Q u s' := by
  obtain ⟨v, H', os, bare, un, hok, r, q⟩ := h
  obtain ⟨hh, g, d, t, os'⟩ := s'
  obtain rfl : os' = s.os := os
  exact ⟨v, H', I.call (h' := hh) (g' := g) (d' := d) (t' := t) (ch := []) un hok bare (fun b z => absurd z (by simp)), r, q⟩
end

/-! ### calls -/
/-- f(..): the written arguments, then the defaults dvs; E: what is wanted of an exception -/
def tCall (sp : Sp) (dvs : List V) (E : XK) (t : TA) : TE := fun σ H Q => t σ H fun vs H1 => sp (vs ++ dvs) H1 Q E
/-- o.m(..) of an instance of the class at C -/
def tMeth (C : Addr) (m : Str) (sp : Sp) (dvs : List V) (E : XK) (ta : TE) (t : TA) : TE := fun σ H Q => ta σ H fun x H1 => ∃ a dx fs, x = .ref a ∧ H1 a = some (.ins C dx fs) ∧ fs.lookup m = none ∧
  t σ H1 fun vs H2 => sp (x :: (vs ++ dvs)) H2 Q E
/-- C(..): a new instance and its dict, then __init__ -/
def tMake (C : Addr) (sp : Sp) (dvs : List V) (E : XK) (t : TA) : TE := fun σ H Q => t σ H fun vs H1 => ∀ x dx, H1 x = none → H1 dx = none → dx ≠ x →
  sp (.ref x :: (vs ++ dvs)) (upd (upd H1 dx (.own x)) x (.ins C dx [])) (fun v H2 => v = .non ∧ Q (.ref x) H2) E

/-- how the parameters are bound: us the positional arguments, kw the keywords' values by name, ds the defaults that fill up -/
def Binds (K : PySem.W.Frag) (fd : FuncData) (ps : List Str) (ds : List Value) : Prop :=
  ∀ (s : Shared) (us : List Value), K.In s.heap → (us ++ ds).length = ps.length → BindsTo s fd ⟨us, []⟩ (ps.zip (us ++ ds))
/-- every parameter is given -/
theorem Binds.all {K : PySem.W.Frag} {fd : FuncData} {ps : List Str} (h : ∀ us : List Value, us.length = ps.length → bindArgs fd ⟨us, []⟩ = pure (ps.zip us)) : Binds K fd ps [] := fun s us _ hl => by
  rw [List.append_nil] at hl ⊢
  exact .of_eq (h us hl)

/-- an exception of a callee reaches what this body wants of exceptions -/
def Passes (CX : CXT) (X : Cx) (E : XK) : Prop := ∀ (pins : List (Addr × Obj)) (σ : St) (H : Hp) (s : Shared) (e : Value) (s' : Shared), Inv X pins σ H s → CX X.stack H s E e s' → X.xe e s'

section
variable {X : Cx} {CX : CXT} {k : Nat} {f C : Addr} {fd : FuncData} {ps : List Str} {sp : Sp} {dvs : List V} {ds : List Value} {E : XK} {x m : Str} {p pos apos : Pos} {e o : Expr} {es : List Expr} {ta : TE} {t : TA}

/-- the callee runs -/
theorem run_fn {pins : List (Addr × Obj)} {σ : St} {H : Hp} {s : Shared} {Q : VK} {us : List Value} {vs : List V} (F : FnOk X.prog X.w X.K X.mg X.base CX k f fd ps sp) (hr : Room k X.A) (hb : Binds X.K fd ps ds) (hd : Vals dvs ds) (hx : Passes CX X E)
    (I : Inv X pins σ H s) (r : Vals vs us) (h : sp (vs ++ dvs) H Q E) : wpAny (model X.prog X.w) X.A (call (.ref f) us) (EP X pins σ Q) X.xe s := by
  have r2 : Vals (vs ++ dvs) (us ++ ds) := r.append hd
  have hl : (us ++ ds).length = ps.length := by rw [← r2.length]; exact F.len _ _ _ _ h
  refine wpAny_call (codeAny_mono (F.run X.A X.stack s H ⟨us, []⟩ (us ++ ds) (vs ++ dvs) Q E hr I.env0 (hb s us I.kIn hl) r2 h) fun r s' hq => ?_)
  cases r with
  | error e => exact hx pins σ H s e s' I hq
  | ok fl =>
    cases fl with
    | ret u => exact I.after hq
    | next => exact False.elim hq
    | brk => exact False.elim hq
    | cont => exact False.elim hq

theorem pe_call (F : FnOk X.prog X.w X.K X.mg X.base CX k f fd ps sp) (hr : Room k X.A) (hg : Gl X x) (hm : X.mg x = some (.ref f)) (hk : PySem.W.keepIn X.K (.ref f) = true) (hb : Binds X.K fd ps ds) (hd : Vals dvs ds) (hx : Passes CX X E)
    (ha : PA X (e :: es) t) (hdb : (x == ("__debug__" : Str)) = false := by decide) (he : starEach (e :: es) X.env = (false, eval e X.env) :: starEach es X.env := by rfl) (hpl : (backTo pos (starEach es X.env)).any (·.1) = false := by rfl) :
    PE X (.Call (.Name x p) (e :: es) [] pos) (tCall sp dvs E t) := by
  intro pins s σ H Q I h
  refine wpAny_Call_Name_kw (ld_glob I hg hm ?_ hdb)
  refine PySem.W.callWith_K (h₀ := X.base) I.ok.mod.kin hk (thn (ha pos pins s σ H _ I h) fun us s1 ⟨vs, H1, I1, r, q⟩ => ⟨I1.kIn, ?_⟩) he hpl
  exact run_fn F hr hb hd hx I1 r q
/-- o.m(e, ..) -/
theorem pe_meth {pl : Sem Bool} (he : PE X o ta) (c : Cls X.K C) (hm : Meth X.K C m f) (F : FnOk X.prog X.w X.K X.mg X.base CX k f fd ps sp) (hr : Room k X.A) (hb : Binds X.K fd ps ds) (hd : Vals dvs ds) (hx : Passes CX X E) (ha : PA X (e :: es) t)
    (hst : starEach (e :: es) X.env = (false, eval e X.env) :: starEach es X.env := by rfl) (hpl : (backTo pos (starEach es X.env)).any (·.1) = false := by rfl)
    (ht : eval (.Call (.Attribute o m apos) (e :: es) [] pos) X.env = (do
      let ov ← eval o X.env
      standAt apos.atName
      let (f, first) ← holding [ov] (getMethod ov m pl)
      callWith pos f first (backTo pos (starEach (e :: es) X.env)) (backToKw pos (keywordEach [] X.env))) := by rfl) :
    PE X (.Call (.Attribute o m apos) (e :: es) [] pos) (tMeth C m sp dvs E ta t) := by
  intro pins s σ H Q I h
  refine PySem.W.methodCall_KW (pl := pl) (thn (he pins s σ H _ I h) fun u s1 ⟨x, H1, I1, rx, a, dx, fs, ex, ea, l, q⟩ => ?_) ht
  subst ex
  obtain rfl : u = Value.ref a := rx
  refine getmeth_ok I1 ea c hm l ?_
  refine PySem.W.callWith_K (first := [.ref a]) (h₀ := X.base) I.ok.mod.kin hm.kp (thn (ha pos pins s1 σ H1 _ I1 q) fun us s2 ⟨vs, H2, I2, r, q2⟩ => ⟨I2.kIn, ?_⟩) hst hpl
  exact run_fn (us := .ref a :: us) (vs := .ref a :: vs) F hr hb hd hx I2 (.cons rfl r) q2
/-- o.m() -/
theorem pe_meth0 {pl : Sem Bool} (he : PE X o ta) (c : Cls X.K C) (hm : Meth X.K C m f) (F : FnOk X.prog X.w X.K X.mg X.base CX k f fd ps sp) (hr : Room k X.A) (hb : Binds X.K fd ps ds) (hd : Vals dvs ds) (hx : Passes CX X E)
    (ht : eval (.Call (.Attribute o m apos) [] [] pos) X.env = (do
      let ov ← eval o X.env
      standAt apos.atName
      let (f, first) ← holding [ov] (getMethod ov m pl)
      callWith pos f first (backTo pos (starEach [] X.env)) (backToKw pos (keywordEach [] X.env))) := by rfl) :
    PE X (.Call (.Attribute o m apos) [] [] pos) (tMeth C m sp dvs E ta tNil) := by
  intro pins s σ H Q I h
  refine PySem.W.methodCall_KW (pl := pl) (thn (he pins s σ H _ I h) fun u s1 ⟨x, H1, I1, rx, a, dx, fs, ex, ea, l, q⟩ => ?_) ht
  subst ex
  obtain rfl : u = Value.ref a := rx
  refine getmeth_ok I1 ea c hm l ?_
  exact PySem.W.callWith_K0 (first := [.ref a]) I1.kIn hm.kp (run_fn (us := [.ref a]) (vs := [.ref a]) F hr hb hd hx I1 (.cons rfl .nil) q)

/-- what a class must have to be made -/
structure Mk (K : PySem.W.Frag) (C f : Addr) : Prop where
  makes : PySem.W.makesIn K C = true
  init : PySem.W.findIn K (.ref C) "__init__" = some (some (.ref f))
  fn : PySem.W.isFn K (.ref f) = true
  kp : PySem.W.keepIn K (.ref C) = true

theorem run_make {pins : List (Addr × Obj)} {σ : St} {H : Hp} {s : Shared} {Q : VK} {us : List Value} {vs : List V} (M : Mk X.K C f) (F : FnOk X.prog X.w X.K X.mg X.base CX k f fd ps sp) (hr : Room (k + 1) X.A) (hb : Binds X.K fd ps ds) (hd : Vals dvs ds)
    (hx : Passes CX X E) (I : Inv X pins σ H s) (r : Vals vs us)
    (h : ∀ x dx, H x = none → H dx = none → dx ≠ x → sp (.ref x :: (vs ++ dvs)) (upd (upd H dx (.own x)) x (.ins C dx [])) (fun v H2 => v = .non ∧ Q (.ref x) H2) E) :
    wpAny (model X.prog X.w) X.A (call (.ref C) us) (EP X pins σ Q) X.xe s := by
  have hq := h (s.heap.objs.size + 1) s.heap.objs.size (I.hok.fresh (Nat.le_succ _)) (I.hok.fresh (Nat.le_refl _)) (Nat.ne_of_lt (Nat.lt_succ_self _))
  have I2 := Inv.made (C := C) I
  have r2 : Vals (V.ref (s.heap.objs.size + 1) :: (vs ++ dvs)) (Value.ref (s.heap.objs.size + 1) :: (us ++ ds)) := .cons rfl (r.append hd)
  have hl : (Value.ref (s.heap.objs.size + 1) :: us ++ ds).length = ps.length := by
    have e := r2.length
    rw [F.len _ _ _ _ hq] at e
    exact e.symm
  refine wpAny_call (make_map (f := f) I.kIn M.makes M.init (beq_iff_eq.mp M.fn) (codeAny_mono (F.run _ X.stack _ _ ⟨Value.ref (s.heap.objs.size + 1) :: us, []⟩ (Value.ref (s.heap.objs.size + 1) :: (us ++ ds)) _ _ E (hr.make C us [])
    (I2.env0.make C us []) (hb _ (Value.ref (s.heap.objs.size + 1) :: us) I2.kIn hl) r2 hq) fun r s' hq' => ?_))
  cases r with
  | error e => exact hx pins σ _ _ e s' I2 hq'
  | ok fl =>
    cases fl with
    | ret u =>
      obtain ⟨v, H', I3, rv, ev, q3⟩ := I2.after hq'
      subst ev
      exact ⟨rv, ⟨V.ref (s.heap.objs.size + 1), H', I3, rfl, q3⟩⟩
    | next => exact False.elim hq'
    | brk => exact False.elim hq'
    | cont => exact False.elim hq'
theorem pe_make (M : Mk X.K C f) (F : FnOk X.prog X.w X.K X.mg X.base CX k f fd ps sp) (hr : Room (k + 1) X.A) (hg : Gl X x) (hm : X.mg x = some (.ref C)) (hb : Binds X.K fd ps ds) (hd : Vals dvs ds) (hx : Passes CX X E)
    (ha : PA X (e :: es) t) (hdb : (x == ("__debug__" : Str)) = false := by decide) (he : starEach (e :: es) X.env = (false, eval e X.env) :: starEach es X.env := by rfl) (hpl : (backTo pos (starEach es X.env)).any (·.1) = false := by rfl) :
    PE X (.Call (.Name x p) (e :: es) [] pos) (tMake C sp dvs E t) := by
  intro pins s σ H Q I h
  refine wpAny_Call_Name_kw (ld_glob I hg hm ?_ hdb)
  refine PySem.W.callWith_K (h₀ := X.base) I.ok.mod.kin M.kp (thn (ha pos pins s σ H _ I h) fun us s1 ⟨vs, H1, I1, r, q⟩ => ⟨I1.kIn, ?_⟩) he hpl
  exact run_make M F hr hb hd hx I1 r q
end

/-! ### keywords -/
/-- the values of the keywords, from the left -/
def PK (X : Cx) (kws : List Keyword) (t : TA) : Prop :=
  ∀ (pos : Pos) (pins : List (Addr × Obj)) (s : Shared) (σ : St) (H : Hp) (Q : List V → Hp → Prop), Inv X pins σ H s → t σ H Q → wpAny (model X.prog X.w) X.A (evalAll ((backToKw pos (keywordEach kws X.env)).map (·.2))) (AP X pins σ Q) X.xe s
section
variable {X : Cx} {CX : CXT} {k : Nat} {f C : Addr} {fd : FuncData} {ps ks : List Str} {sp : Sp} {E : XK} {x m : Str} {p pos apos kpos : Pos} {e o : Expr} {es : List Expr} {kws : List Keyword} {te ta : TE} {t tk : TA} {nm : Option Str}
theorem pk_nil : PK X [] tNil := fun _ _ _ _ H Q I h => wpAny_evalAll_nil ⟨[], H, I, .nil, h⟩
theorem pk_cons (ha : PE X e te) (hr : PK X kws t) : PK X (⟨nm, e, kpos⟩ :: kws) (tCons te t) := by
  intro pos pins s σ H Q I h
  show wpAny _ _ (evalAll ((do let v ← eval e X.env; standAt pos; pure v) :: (backToKw pos (keywordEach kws X.env)).map (·.2))) _ _ s
  refine wpAny_evalAll_cons (wpAny_bind (thn (ha pins s σ H _ I h) fun u s1 ⟨x, H1, I1, r1, q1⟩ => wpAny_bind (wpAny_standAt (wpAny_pure ?_))))
  exact thn (hr pos pins s1 σ H1 _ I1 q1) fun us s2 ⟨xs, H2, I2, r2, q2⟩ => ⟨x :: xs, H2, I2, .cons r1 r2, q2⟩

variable {g : List Value → List Value → List Value} {gV : List V → List V → List V}
end

/-! ### a def's body keeps its promise -/
/-- names: the parameters first -/
structure FnScope (N P : List Str) (sc : Scope) : Prop where
  kind : sc.kind = .function
  co : sc.isCoroutine = false
  gen : sc.isGenerator = false
  nd : N.Nodup
  pre : N.take P.length = P
  par : ∀ x ∈ P, sc.names.lookup x = some .local ∨ sc.names.lookup x = some .cell
  nofree : ∀ y ∈ sc.names, y.2 ≠ .free

theorem bindL_out {kindOf : Str → Option NameKind} {x : Str} : ∀ {binds : List (Str × Value)} {m : Str → Option Value}, (∀ v, (x, v) ∉ binds) → bindL kindOf binds m x = m x
  | [], _, _ => rfl
  | (n, v) :: r, m, h => by
    unfold bindL
    rw [bindL_out fun w hw => h w (List.mem_cons_of_mem _ hw)]
    split
    · have : x ≠ n := by rintro rfl; exact h v List.mem_cons_self
      simp [this]
    · rfl
theorem bindC_out {kindOf : Str → Option NameKind} {x : Str} : ∀ {binds : List (Str × Value)} {m : Str → Option Value}, (∀ v, (x, v) ∉ binds) → bindC kindOf binds m x = m x
  | [], _, _ => rfl
  | (n, v) :: r, m, h => by
    unfold bindC
    rw [bindC_out fun w hw => h w (List.mem_cons_of_mem _ hw)]
    split
    · rfl
    · have : x ≠ n := by rintro rfl; exact h v List.mem_cons_self
      simp [this]
theorem bindL_get {kindOf : Str → Option NameKind} {x : Str} {v : Value} : ∀ {P : List Str} {vs : List Value} {i : Nat} {m : Str → Option Value}, P.Nodup → P[i]? = some x → vs[i]? = some v → kindOf x = some .local →
    bindL kindOf (P.zip vs) m x = some v
  | [], _, _, _, _, h, _, _ => by simp at h
  | _ :: _, [], _, _, _, _, h, _ => by simp at h
  | p :: P, w :: vs, 0, m, nd, h1, h2, hk => by
    simp at h1 h2; subst h1; subst h2
    show bindL kindOf ((p, w) :: P.zip vs) m p = _
    unfold bindL
    rw [bindL_out fun v hv => (List.nodup_cons.mp nd).1 (List.of_mem_zip hv).1, if_pos hk]
    simp
  | p :: P, w :: vs, i + 1, m, nd, h1, h2, hk => by
    show bindL kindOf ((p, w) :: P.zip vs) m x = _
    unfold bindL
    exact bindL_get (i := i) (List.nodup_cons.mp nd).2 (by simpa using h1) (by simpa using h2) hk
theorem bindC_get {kindOf : Str → Option NameKind} {x : Str} {v : Value} : ∀ {P : List Str} {vs : List Value} {i : Nat} {m : Str → Option Value}, P.Nodup → P[i]? = some x → vs[i]? = some v → kindOf x ≠ some .local →
    bindC kindOf (P.zip vs) m x = some v
  | [], _, _, _, _, h, _, _ => by simp at h
  | _ :: _, [], _, _, _, _, h, _ => by simp at h
  | p :: P, w :: vs, 0, m, nd, h1, h2, hk => by
    simp at h1 h2; subst h1; subst h2
    show bindC kindOf ((p, w) :: P.zip vs) m p = _
    unfold bindC
    rw [bindC_out fun v hv => (List.nodup_cons.mp nd).1 (List.of_mem_zip hv).1, if_neg hk]
    simp
  | p :: P, w :: vs, i + 1, m, nd, h1, h2, hk => by
    show bindC kindOf ((p, w) :: P.zip vs) m x = _
    unfold bindC
    exact bindC_get (i := i) (List.nodup_cons.mp nd).2 (by simpa using h1) (by simpa using h2) hk

/-- the names' values at the entry -/
def start (N : List Str) (vs : List V) : St := vs.map some ++ List.replicate (N.length - vs.length) none

/-- the context of a def's body, at its entry; an exception leaves the frame, then lies as CX says -/
def cxOf (CX : CXT) (P : Program) (w : World) (K : PySem.W.Frag) (mg : Str → Option Value) (base : Heap) (N : List Str) (qual : Str) (scope : Scope) (f : Addr) (cd : Value) (A : Around) (outer : List Env) (s : Shared) (H : Hp) (E : XK) : Cx where
  prog := P
  w := w
  K := K
  mg := mg
  base := base
  A := A.deeper (envOfC qual scope s.heap.objs.size f cd)
  N := N
  s₀ := s
  H₀ := H
  env := envOfC qual scope s.heap.objs.size f cd
  outer := outer
  stack := envOfC qual scope s.heap.objs.size f cd :: outer
  ex := []
  calm := true
  fn := fun _ => true
  pn := []
  xe := fun e s' => wpAny (model P w) (A.deeper (envOfC qual scope s.heap.objs.size f cd)) (leaving (envOfC qual scope s.heap.objs.size f cd) e) (fun _ s'' => CX outer H s E e s'') (fun e' s'' => CX outer H s E e' s'') s'

theorem cell_has {sc : Scope} {n : Nat} {x : Str} (h : sc.names.lookup x = some .cell) : ∃ c, (cellsFrom n sc.names []).lookup x = some c := by
  have q := PySem.W.cellsFrom_some sc.names n [] (.inl h)
  exact Option.isSome_iff_exists.mp q

theorem inv_start {CX : CXT} {P : Program} {w : World} {K : PySem.W.Frag} {mg : Str → Option Value} {base : Heap} {N ps : List Str} {qual : Str} {scope : Scope} {f : Addr} {cd : Value} {A : Around} {outer : List Env} {s s1 : Shared} {H : Hp} {E : XK} {us : List Value} {vs : List V}
    (S : FnScope N ps scope) (hd : A.handled = none) (e0 : Env0 P w K mg base A outer s H) (hl : vs.length = ps.length) (r : Vals vs us)
    (x : InCallC s s.heap.objs.size (bindL (envOfC qual scope s.heap.objs.size f cd).kindOf (ps.zip us) fun _ => none) (cellsFrom (s.heap.objs.size + 1) scope.names []) (bindC (envOfC qual scope s.heap.objs.size f cd).kindOf (ps.zip us) fun _ => none) s1) :
    Inv (cxOf CX P w K mg base N qual scope f cd A outer s H E) [] (start N vs) H s1 := by
  have hpl : ps.length ≤ N.length := by have := congrArg List.length S.pre; rw [List.length_take] at this; omega
  obtain ⟨h1, tk, rfl, hk⟩ := x.done
  have noA : ∀ b : Addr, b ∉ (cxOf CX P w K mg base N qual scope f cd A outer s H E).ex := fun b z => absurd (show b ∈ ([] : List Addr) from z) (by simp)
  refine ⟨⟨e0.mod, S.kind, rfl, rfl, Nat.le_refl _, fun y z c h1 h2 => ?_, fun y hy => ?_, fun y c _ h => ?_, fun _ => hd, Around.frames_deeper e0.frames, .inr ⟨rfl, rfl⟩, fun b z => absurd z (noA b), e0.bs, e0.bsz, fun b _ _ => noA b, fun b z => absurd z (noA b), e0.funs, e0.frf⟩,
    rfl, e0.bare, Un.kept hk, ⟨_, x.toInCall.ns, fun i y v h1 h2 h3 => ?_⟩, fun y c h => ⟨_, x.cell y c h⟩, e0.hok.fresh (Nat.le_refl _), fun y c h => ?_, fun p hp => absurd (show p ∈ ([] : List (Addr × Obj)) from hp) (by simp), e0.hok.kept hk, ?_⟩
  · exact name_of_addr x.apart (PySem.mem_of_lookup h1) (PySem.mem_of_lookup h2)
  · have hy : scope.names.lookup y = some .cell ∨ scope.names.lookup y = some .free := hy
    rcases hy with hy | hy
    · exact cell_has hy
    · exact absurd rfl (S.nofree _ (PySem.mem_of_lookup hy))
  · exact Nat.le_of_lt (x.above y c (PySem.mem_of_lookup h))
  · have hi : i < vs.length := by
      unfold start at h2
      by_cases hi : i < vs.length
      · exact hi
      · rw [List.getElem?_append_right (by simpa using hi)] at h2
        rw [List.getElem?_replicate] at h2
        split at h2 <;> cases h2
    have ha : vs[i]? = some v := by
      unfold start at h2
      rw [List.getElem?_append_left (by simpa using hi), List.getElem?_map] at h2
      cases e : vs[i]? with
      | none => rw [e] at h2; cases h2
      | some a => rw [e] at h2; cases h2; rfl
    obtain ⟨u, hu, rv⟩ := r.get ha
    have hp : ps[i]? = some y := by
      rw [← S.pre, List.getElem?_take_of_lt (by omega)]; exact h1
    have ndP : ps.Nodup := by rw [← S.pre]; exact S.nd.sublist (List.take_sublist _ _)
    refine ⟨u, rv, ?_⟩
    rcases S.par y (List.mem_of_getElem? hp) with k | k
    · exact .inl ⟨k, bindL_get ndP hp hu k⟩
    · obtain ⟨c, e⟩ := cell_has (n := s.heap.objs.size + 1) k
      refine .inr ⟨.inl k, c, e, ?_⟩
      have q := x.cell y c e
      rw [bindC_get ndP hp hu (by show scope.names.lookup y ≠ _; rw [k]; decide)] at q
      exact q
  · exact e0.hok.fresh (Nat.le_of_lt (x.above y c (PySem.mem_of_lookup h)))
  · unfold start
    show _ = N.length
    rw [List.length_append, List.length_map, List.length_replicate]
    omega

/-- THE RULE: a def (or a method) of the text, by its body. The body's reading t is chosen for each entry; it is run at the parameters' values -/
theorem fn_of {CX : CXT} {P : Program} {w : World} {K : PySem.W.Frag} {mg : Str → Option Value} {base : Heap} {k : Nat} {f : Addr} {name qual : Str} {params : Arguments} {body : List Stmt} {scope : Scope} {dV kV doc pm cdv ct oc : Value} {an od : Option Addr}
    {osl : Array (Option Value)} {N ps : List Str} {sp : Sp} (lk : K.lookup f = some ⟨oc, od, .func (PySem.W.fnOf name qual params body scope dV kV doc pm an cdv ct), osl⟩) (hcd : PySem.W.codeIn K cdv qual = true) (S : FnScope N ps scope)
    (len : ∀ vs H Q E, sp vs H Q E → vs.length = ps.length)
    (hbody : ∀ (A : Around) (outer : List Env) (s : Shared) (H : Hp) (vs : List V) (Q : VK) (E : XK), Room k (A.deeper (envOfC qual scope s.heap.objs.size f cdv)) → sp vs H Q E →
      ∃ t, PSs (cxOf CX P w K mg base N qual scope f cdv A outer s H E) body t ∧ t { nx := fun _ H' => Q .non H', rt := Q } (start N vs) H) :
    FnOk P w K mg base CX (k + 1) f (PySem.W.fnOf name qual params body scope dV kV doc pm an cdv ct) ps sp := by
  refine ⟨len, fun A outer s H args us vs Q E hr e0 hb r hsp => ?_⟩
  have hl := len _ _ _ _ hsp
  have KX : K.In s.heap := e0.mod.kin.keeps fun b o e => (e0.bs b o e).1
  have lim : s.heap.NoLimit := e0.mod.nolimit.keeps fun b o e => (e0.bs b o e).1
  have hkind : ∀ y ∈ ps.zip us, scope.names.lookup y.1 = some .local ∨ (scope.names.lookup y.1 = some .cell ∧ ((cellsFrom (s.heap.objs.size + 1) scope.names []).lookup y.1).isSome = true) := fun ⟨n, v⟩ hy => by
    rcases S.par n (List.of_mem_zip hy).1 with q | q
    · exact .inl q
    · exact .inr ⟨q, PySem.W.cellsFrom_some _ _ _ (.inl q)⟩
  refine codeAny_call_function hr.depth (KX _ _ lk) rfl S.co S.gen rfl (PySem.W.codeRec_of KX hcd) (hb _ _ _ _ ?_)
  refine wpAny_newFunctionEnv_cells S.kind hkind fun env he s1 x => ?_
  subst he
  refine ⟨lim.keeps x.toInCall.keep, codeAny_func ?_⟩
  obtain ⟨t, ht, hq⟩ := hbody A outer s H vs Q E (hr.deeper _) hsp
  have I : Inv (cxOf CX P w K mg base N qual scope f cdv A outer s H E) [] (start N vs) H s1 := inv_start S hr.hd e0 hl r x
  refine wpAny_mono (ht [] s1 (start N vs) H _ I hq) (fun fl s' hs => ?_) fun e s' hs => hs
  have fin : ∀ {σ' : St} {H' : Hp} {v : V} {u : Value}, Inv (cxOf CX P w K mg base N qual scope f cdv A outer s H E) [] σ' H' s' → RelV v u → Q v H' → CE outer P w H s Q u s' :=
    fun {σ' H' v u} J rv q => ⟨v, H', J.os, J.bare, J.base, J.hok, rv, q⟩
  cases fl with
  | ret u =>
    obtain ⟨v, σ', H', J, rv, q⟩ := hs
    exact fin J rv q
  | next =>
    obtain ⟨σ', H', J, q⟩ := hs
    exact fin (v := V.non) (u := Value.none) J rfl q
  | brk =>
    obtain ⟨_, _, _, q⟩ := hs
    exact False.elim q
  | cont =>
    obtain ⟨_, _, _, q⟩ := hs
    exact False.elim q
end L2

namespace L2
open PySem PySem.Spec PyProof.Rows
section
variable {X : Cx} {x : Str} {p pos : Pos} {e : Expr} {es : List Expr} {t : TA} {id T : String} {r : List V → Hp → VK → Prop}

def tCB (r : List V → Hp → VK → Prop) (t : TA) : TE := fun σ H Q => t σ H fun vs H1 => r vs H1 Q
/-- f(e, ..), f a built-in function -/
theorem pe_callB (hc : CallR X (.builtin id) r) (hg : Gl X x) (hm : X.mg x = none) (hv : bootBuiltins x = some (.builtin id)) (ha : PA X (e :: es) t) (hn : x ≠ "__name__" := by decide) (hdb : (x == ("__debug__" : Str)) = false := by decide)
    (he : starEach (e :: es) X.env = (false, eval e X.env) :: starEach es X.env := by rfl) (hpl : (backTo pos (starEach es X.env)).any (·.1) = false := by rfl) : PE X (.Call (.Name x p) (e :: es) [] pos) (tCB r t) := by
  intro pins s σ H Q I h
  refine wpAny_Call_Name_kw (ld_blt I hg hm hv ?_ hn hdb)
  exact PyProof.Rows.callWith_builtin1 (thn (ha pos pins s σ H _ I h) fun us s1 ⟨vs, H1, I1, r1, q1⟩ => hc pins s1 σ H1 vs us Q I1 r1 q1) he hpl
/-- T(e, ..), T a built-in type -/
theorem pe_callTy (hc : CallR X (.type T) r) (hg : Gl X x) (hm : X.mg x = none) (hv : bootBuiltins x = some (.type T)) (ha : PA X (e :: es) t) (hn : x ≠ "__name__" := by decide) (hdb : (x == ("__debug__" : Str)) = false := by decide)
    (he : starEach (e :: es) X.env = (false, eval e X.env) :: starEach es X.env := by rfl) (hpl : (backTo pos (starEach es X.env)).any (·.1) = false := by rfl) : PE X (.Call (.Name x p) (e :: es) [] pos) (tCB r t) := by
  intro pins s σ H Q I h
  refine wpAny_Call_Name_kw (ld_blt I hg hm hv ?_ hn hdb)
  exact PyProof.Rows.callWith_type1 (thn (ha pos pins s σ H _ I h) fun us s1 ⟨vs, H1, I1, r1, q1⟩ => hc pins s1 σ H1 vs us Q I1 r1 q1) he hpl
end
end L2

namespace HT
open PySem PyProof.Rows

section
open PySem.SeqAt
open PySem.AutoSeq1 (wpAny_loadPart')
open PySem.MeetsSeq PySem.MeetsSeq2 PySem.MeetsSeq3

end

section
variable {prog : Program} {w : World} {A : Around} {E : Value → Shared → Prop} {s : Shared}

/-! ### t[a:b], not the whole -/
/-- a slice's bound as a place among n (d where it is left out) -/
def sIx (n d : Nat) : Option Int → Nat
  | none => d
  | some v => if v < 0 then (v + (n : Int)).toNat else min v.toNat n
theorem sIx_none (n d : Nat) : sIx n d none = d := rfl
theorem sIx_nat (n d k : Nat) : sIx n d (some (k : Int)) = min k n := by
  show (if (k : Int) < 0 then ((k : Int) + (n : Int)).toNat else min (k : Int).toNat n) = min k n
  rw [if_neg (by omega), Int.toNat_natCast]
end
end HT

namespace L2
open PySem PySem.Spec PyProof.Rows

/-! ### the parts of a slice -/
abbrev TO := St → Hp → (Option Int → Hp → Prop) → Prop
/-- a slice's part (left out, or an int) -/
def PO (X : Cx) (e : Option Expr) (t : TO) : Prop :=
  ∀ (pins : List (Addr × Obj)) (s : Shared) (σ : St) (H : Hp) (Q : Option Int → Hp → Prop), Inv X pins σ H s → t σ H Q →
    wpAny (model X.prog X.w) X.A (evalPart e X.env) (fun u s' => ∃ o H', Inv X pins σ H' s' ∧ IsPart u o ∧ Q o H') X.xe s
def tNoPart : TO := fun _ H Q => Q none H
def tPart (t : TE) : TO := fun σ H Q => t σ H fun x H1 => ∃ i, x = .int i ∧ Q (some i) H1

section
variable {X : Cx} {e : Expr} {te : TE} {lo hi : Option Expr} {tl th : TO} {pos p2 : Pos}

theorem po_none : PO X none tNoPart := by
  intro pins s σ H Q I h
  rw [evalPart_none]
  exact wpAny_pure ⟨none, H, I, .none, h⟩
theorem po_some (h : PE X e te) : PO X (some e) (tPart te) := by
  intro pins s σ H Q I hw
  rw [evalPart_some]
  refine thn (h pins s σ H _ I hw) fun u s1 ⟨x, H1, I1, r1, q1⟩ => ?_
  obtain ⟨i, rfl, q⟩ := q1
  obtain ⟨t, rfl⟩ := r1
  exact ⟨some i, H1, I1, .int i t, q⟩

/-- what a slice of a value is, by values: the slice object stands at sl -/
def SlR (X : Cx) (r : V → Option Int → Option Int → Hp → VK → Prop) : Prop :=
  ∀ (pins : List (Addr × Obj)) (s : Shared) (σ : St) (H : Hp) (x : V) (v vl vu : Value) (lo hi : Option Int) (sl : Addr) (Q : VK), Inv X pins σ H s → RelV x v → s.heap.IsSliceOf sl vl vu .none → IsPart vl lo → IsPart vu hi → r x lo hi H Q →
    ∃ T id, typeLookup (.type T) "__getitem__" = pure (some (.builtin id)) ∧ s.TypeIs v T ∧ wpAny (model X.prog X.w) X.A (getItem v (.ref sl)) (EP X pins σ Q) X.xe s
def tSl (r : V → Option Int → Option Int → Hp → VK → Prop) (te : TE) (tl th : TO) : TE := fun σ H Q => te σ H fun x H1 => tl σ H1 fun l H2 => th σ H2 fun u H3 => r x l u H3 Q
/-- a[lo:hi], any a -/
theorem pe_slice {r : V → Option Int → Option Int → Hp → VK → Prop} (hr : SlR X r) (he : PE X e te) (hl : PO X lo tl) (hu : PO X hi th) : PE X (.Subscript e (.Slice lo hi none p2) pos) (tSl r te tl th) := by
  intro pins s σ H Q I h
  refine Subscript_ (thn (he pins s σ H _ I h) fun v s1 ⟨x, H1, I1, r1, q1⟩ => ?_)
  refine wpAny_Slice (thn (hl pins s1 σ H1 _ I1 q1) fun vl s2 ⟨l, H2, I2, pl, q2⟩ => thn (hu pins s2 σ H2 _ I2 q2) fun vu s3 ⟨u, H3, I3, pu, q3⟩ => ?_)
  rw [evalPart_none]
  refine wpAny_pure ?_
  have I4 : Inv X pins σ H3 { s3 with heap := s3.heap.push { cls := .type "slice", data := .fields #[vl, vu, .none] } } := I3.kept (t' := s3.toks) fun b ob q => Heap.get?_push_of_some _ q
  obtain ⟨T, id, hT, ht, hg⟩ := hr pins { s3 with heap := s3.heap.push { cls := .type "slice", data := .fields #[vl, vu, .none] } } σ H3 x v vl vu l u s3.heap.objs.size Q I4 r1 (Heap.IsSliceOf.new ..) pl pu q3
  show wpAny (model X.prog X.w) X.A (subscriptTail e (.Slice lo hi none p2) v (.ref s3.heap.objs.size)) (EP X pins σ Q) X.xe { s3 with heap := s3.heap.push { cls := .type "slice", data := .fields #[vl, vu, .none] } }
  exact tail_any (ops := [.ref s3.heap.objs.size, v]) ht hT hg (by with_unfolding_all rfl)

/-- the items of xs[lo:hi] -/
def cutV (xs : List V) (lo hi : Option Int) : List V := (xs.drop (HT.sIx xs.length 0 lo)).take (HT.sIx xs.length xs.length hi - HT.sIx xs.length 0 lo)
theorem cutV_length (xs : List V) (lo hi : Option Int) : (cutV xs lo hi).length ≤ xs.length := by
  unfold cutV
  rw [List.length_take, List.length_drop]
  omega
/-! ### t < u, t + u -/
end
end L2

namespace L2
open PySem PySem.Spec PyProof.Rows

/-! ### places -/
/-- the place that an index of any sign means -/
def ixN (n : Nat) (i : Int) : Option Nat := if 0 ≤ i then (if i < n then some i.toNat else none) else if -(n : Int) ≤ i then some (i + n).toNat else none
def atI {α : Type} (xs : List α) (i : Int) : Option α := (ixN xs.length i).bind fun j => xs[j]?
theorem ixN_seq {n : Nat} {i : Int} {j : Nat} (h : ixN n i = some j) : seqIndex? i n = some j ∧ j < n ∧ -(n : Int) ≤ i ∧ i < n := by
  unfold ixN at h
  by_cases h0 : 0 ≤ i
  · rw [if_pos h0] at h
    by_cases h1 : i < n
    · rw [if_pos h1] at h
      have e : i.toNat = j := Option.some.inj h
      exact ⟨by rw [seqIndex_of h0 h1, e], by omega, by omega, h1⟩
    · rw [if_neg h1] at h; cases h
  · rw [if_neg h0] at h
    by_cases h1 : -(n : Int) ≤ i
    · rw [if_pos h1] at h
      have e : (i + n).toNat = j := Option.some.inj h
      exact ⟨by rw [seqIndex_neg (by omega) h1, e], by omega, h1, by omega⟩
    · rw [if_neg h1] at h; cases h
theorem atI_get {α : Type} {xs : List α} {i : Int} {v : α} (h : atI xs i = some v) : ∃ j, seqIndex? i xs.length = some j ∧ xs[j]? = some v ∧ j < xs.length ∧ -(xs.length : Int) ≤ i ∧ i < xs.length := by
  unfold atI at h
  cases e : ixN xs.length i with
  | none => rw [e] at h; cases h
  | some j =>
    rw [e] at h
    obtain ⟨h1, h2, h3, h4⟩ := ixN_seq e
    exact ⟨j, h1, h, h2, h3, h4⟩
theorem atI_nat {α : Type} {xs : List α} {j : Nat} {v : α} (h : xs[j]? = some v) : atI xs (j : Int) = some v := by
  have hj : j < xs.length := (List.getElem?_eq_some_iff.mp h).1
  have e : ixN xs.length (j : Int) = some j := by
    unfold ixN
    rw [if_pos (by omega), if_pos (by omega)]; simp
  unfold atI; rw [e]; exact h
theorem atI_last {α : Type} (xs : List α) (v : α) : atI (xs ++ [v]) (-1) = some v := by
  have hl : (xs ++ [v]).length = xs.length + 1 := by simp
  have e : ixN (xs ++ [v]).length (-1) = some xs.length := by
    unfold ixN
    rw [hl, if_neg (by decide), if_pos (by omega)]
    congr 1
    omega
  unfold atI
  rw [e]
  show (xs ++ [v])[xs.length]? = some v
  simp

/-! ### what may be subscripted -/
/-- what stands as an index of a plain subscript -/
def PlainIx (b : Expr) : Prop := ∀ o i, subscripted b false o i = operate [o, i] (getItem o i)
/-- a subscript by values -/
def IxR (X : Cx) (r : R2) : Prop :=
  ∀ (value slice : Expr) (pins : List (Addr × Obj)) (s : Shared) (σ : St) (H : Hp) (x y : V) (v u : Value) (Q : VK), Inv X pins σ H s → RelV x v → RelV y u → r x y H Q →
    subscripted slice false v u = operate [v, u] (getItem v u) → wpAny (model X.prog X.w) X.A (subscriptTail value slice v u) (EP X pins σ Q) X.xe s
/-- a call of a builtin's method by values: the receiver, the arguments -/
def MtR (X : Cx) (id : String) (r : V → List V → Hp → VK → Prop) : Prop :=
  ∀ (pins : List (Addr × Obj)) (s : Shared) (σ : St) (H : Hp) (x : V) (xs : List V) (v : Value) (us : List Value) (Q : VK), Inv X pins σ H s → RelV x v → Vals xs us → r x xs H Q →
    wpAny (model X.prog X.w) X.A (call (.builtin id) (v :: us)) (EP X pins σ Q) X.xe s
section
variable {X : Cx} {a b : Expr} {ta tb : TE} {pos : Pos}
/-- a[b] -/
theorem pe_ix {r : R2} (hr : IxR X r) (ha : PE X a ta) (hb : PE X b tb) (hs : PlainIx b) : PE X (.Subscript a b pos) (tOp r ta tb) := by
  intro pins s σ H Q I h
  exact Subscript_ (binT ha hb I h fun v u s2 x y H2 I2 rx ry q => hr a b pins s2 σ H2 x y v u Q I2 rx ry q (hs _ _))

def rIxL (K : PySem.W.Frag) : R2 := fun x y H Q => ∃ p xs i v, x = .ref p ∧ y = .int i ∧ SqL K H p xs ∧ atI xs i = some v ∧ Q v H
def rIxT (K : PySem.W.Frag) : R2 := fun x y H Q => ∃ p xs i v, x = .ref p ∧ y = .int i ∧ SqT K H p xs ∧ atI xs i = some v ∧ Q v H
def rIxS : R2 := fun x y H Q => ∃ z i c, x = .str z ∧ y = .int i ∧ z.length ≤ sizeLine ∧ atI z.cps.toList i = some c ∧ Q (.str ⟨#[c]⟩) H
theorem ix_list : IxR X (rIxL X.K) := by
  intro value slice pins s σ H x y v u Q I rx ry h hs
  obtain ⟨p, xs, i, z, rfl, rfl, hq, he, q⟩ := h
  cases rx
  obtain ⟨t, rfl⟩ := ry
  obtain ⟨its, r, pl, hz⟩ := I.list hq
  obtain ⟨j, h1, h2, h3, h4, h5⟩ := atI_get he
  obtain ⟨w, ew, rw'⟩ := r.get h2
  have hl := r.length
  have hn := line63
  have fin : EP X pins σ Q w s := ⟨z, H, I, rw', q⟩
  by_cases h0 : 0 ≤ i
  · have hj : i.toNat = j := by
      rw [seqIndex_of h0 h5] at h1
      exact Option.some.inj h1
    exact item_listR pl.isList h0 (by omega) (by rw [hj]; simpa using ew) fin hs
  · have hj : (i + (its.toArray.size : Int)).toNat = j := by
      rw [seqIndex_neg (by omega) h4] at h1
      rw [List.size_toArray, ← hl]
      exact Option.some.inj h1
    exact subscriptTail_builtinR (x := w) pl.isList.typeIs slot_list_getitem.lookup
      (wpAny_getItem_list_neg (Q := fun r s' => r = w ∧ EP X pins σ Q r s') pl.isList (by omega) (by rw [List.size_toArray] <;> omega) (by omega) (by rw [hj]; simpa using ew) ⟨rfl, fin⟩) hs
theorem ix_tup : IxR X (rIxT X.K) := by
  intro value slice pins s σ H x y v u Q I rx ry h hs
  obtain ⟨p, xs, i, z, rfl, rfl, hq, he, q⟩ := h
  cases rx
  obtain ⟨t, rfl⟩ := ry
  obtain ⟨its, r, pl, hz⟩ := I.tuple hq
  obtain ⟨j, h1, h2, h3, h4, h5⟩ := atI_get he
  obtain ⟨w, ew, rw'⟩ := r.get h2
  have hl := r.length
  have hn := line63
  have fin : EP X pins σ Q w s := ⟨z, H, I, rw', q⟩
  exact subscriptTail_builtinR (x := w) pl.typeIs slot_tuple_getitem.lookup
    (getItem_tuple (j := j) (Q := fun r s' => r = w ∧ EP X pins σ Q r s') pl (by omega) (by omega) (by rw [List.size_toArray, ← hl]; exact h1) (by simpa using ew) ⟨rfl, fin⟩) hs
theorem ix_str : IxR X rIxS := by
  intro value slice pins s σ H x y v u Q I rx ry h hs
  obtain ⟨z, i, c, rfl, rfl, hz, he, q⟩ := h
  obtain ⟨t, rfl⟩ := rx
  obtain ⟨t', rfl⟩ := ry
  obtain ⟨j, h1, h2, h3, h4, h5⟩ := atI_get he
  have hl : z.cps.toList.length = z.length := by simp [Str.length]
  rw [hl] at h1 h4 h5
  have hn := line63
  exact tail_any (typeIs_str s z t) slot_str_getitem.lookup (getItem_str (c := c) (by
    have e1 : decide (i < -(2 ^ 63 : Int)) = false := decide_eq_false (by omega)
    have e2 : decide (i ≥ 2 ^ 63) = false := decide_eq_false (by omega)
    rw [e1, e2, Bool.or_false]) (by rw [h1]; simpa using h2) ⟨.str ⟨#[c]⟩, H, I.tok _, ⟨_, rfl⟩, q⟩) hs
/-! ### xs[i] = v, any sign -/
/-- the list's object behind a store -/
theorem mapSeq_set (its : List Value) (n j : Nat) (u : Value) : Obj.mapSeq (·.setIfInBounds j u) { cls := .type "list", data := .seq its.toArray n } = { cls := .type "list", data := .seq (its.set j u).toArray n } := by
  simp [Obj.mapSeq]
theorem Inv.lst {pins : List (Addr × Obj)} {σ : St} {H : Hp} {s : Shared} {p : Addr} {xs : List V} (I : Inv X pins σ H s) (h : H p = some (.lst xs)) :
    ∃ (its : List Value) (n : Nat), Vals xs its ∧ s.heap.get? p = some { cls := .type "list", data := .seq its.toArray n } ∧ xs.length ≤ sizeLine := by
  obtain ⟨z, its, n, r, e⟩ := I.hok p _ h
  exact ⟨its, n, r, e, z⟩
/-- the list at p is written by an update of its object -/
theorem Inv.lstUpd {pins : List (Addr × Obj)} {σ : St} {H : Hp} {s : Shared} {p : Addr} {xs ys : List V} {its its' : List Value} {n n' : Nat} {f : Obj → Obj} (I : Inv X pins σ H s) (h : H p = some (.lst xs))
    (ho : s.heap.get? p = some { cls := .type "list", data := .seq its.toArray n }) (hf : f { cls := .type "list", data := .seq its.toArray n } = { cls := .type "list", data := .seq its'.toArray n' }) (r : Vals ys its') (hz : ys.length ≤ sizeLine) (t : Nat) :
    Inv X pins σ (upd H p (.lst ys)) { s with heap := s.heap.update p f, toks := t } := by
  have e : (s.heap.update p f).get? p = some { cls := .type "list", data := .seq its'.toArray n' } := by
    rw [Heap.get?_update_self f ho (by rw [hf] <;> rfl), hf]
  refine I.write (x := p) (e := p) (by rw [h]; trivial) (.inl rfl) (fun b u hb q => (Heap.get?_update_other _ _ (Ne.symm hb)).trans q) ⟨_, e⟩ ?_
  exact ⟨hz, its', n', r, e⟩
def rSetL : V → V → V → Hp → (Hp → Prop) → Prop := fun o i v H Q => ∃ p xs k j, o = .ref p ∧ i = .int k ∧ H p = some (.lst xs) ∧ ixN xs.length k = some j ∧ Q (upd H p (.lst (xs.set j v)))
theorem set_list : PSet X rSetL := by
  intro pins s σ H o i v ov iv u Q I ro ri rv h
  obtain ⟨p, xs, k, j, rfl, rfl, hp, hj, q⟩ := h
  cases ro
  obtain ⟨t, rfl⟩ := ri
  obtain ⟨its, n, r, ho, hz⟩ := I.lst hp
  obtain ⟨h1, h2, h3, h4⟩ := ixN_seq hj
  have hl := r.length
  have hn := line63
  have I' : Inv X pins σ (upd H p (.lst (xs.set j v))) { s with heap := s.heap.update p (Obj.mapSeq (·.setIfInBounds j u)) } :=
    I.lstUpd hp ho (mapSeq_set its n j u) (r.set rv j) (by rw [List.length_set]; exact hz) s.toks
  by_cases h0 : 0 ≤ k
  · have hk : k.toNat = j := by
      rw [seqIndex_of h0 h4] at h1
      exact Option.some.inj h1
    exact PySem.W.ki_setAt ho h0 (by omega) (by rw [List.size_toArray, ← hl]; exact h4) (by rw [hk]; exact ⟨_, I', q⟩)
  · have hk : (k + (its.toArray.size : Int)).toNat = j := by
      rw [seqIndex_neg (by omega) h3] at h1
      rw [List.size_toArray, ← hl]
      exact Option.some.inj h1
    exact PySem.W.ki_setBack ho (by omega) (by rw [List.size_toArray, ← hl]; exact h3) (by omega) (by rw [hk]; exact ⟨_, I', q⟩)

/-! ### slices -/
theorem slice_bounds (lo hi : Option Int) (n : Nat) : (sliceBounds lo hi none n).1 = ((HT.sIx n 0 lo : Nat) : Int) ∧ (sliceBounds lo hi none n).2.1 = ((HT.sIx n n hi : Nat) : Int) ∧ (sliceBounds lo hi none n).2.2 = 1 := by
  refine ⟨?_, ?_, rfl⟩
  · cases lo with
    | none => simp [sliceBounds, HT.sIx]
    | some i =>
      simp only [sliceBounds, HT.sIx, Option.getD_none, show (1 : Int) > 0 by decide, if_true]
      by_cases h : i < 0
      · simp only [h, if_true] <;> omega
      · simp only [h, if_false] <;> omega
  · cases hi with
    | none => simp [sliceBounds, HT.sIx]
    | some i =>
      simp only [sliceBounds, HT.sIx, Option.getD_none, show (1 : Int) > 0 by decide, if_true]
      by_cases h : i < 0
      · simp only [h, if_true] <;> omega
      · simp only [h, if_false] <;> omega
theorem slicePick_cut (its : List Value) (lo hi : Option Int) : slicePick its.toArray lo hi none = ((its.drop (HT.sIx its.length 0 lo)).take (HT.sIx its.length its.length hi - HT.sIx its.length 0 lo)).toArray := by
  obtain ⟨h1, h2, h3⟩ := slice_bounds lo hi its.toArray.size
  unfold slicePick
  rw [h1, h2, h3]
  simp only [sliceRange_one, pick_run, List.size_toArray] <;> rfl
/-- xs[lo:hi] of a list: a new list -/
def rSlL (K : PySem.W.Frag) : V → Option Int → Option Int → Hp → VK → Prop := fun x lo hi H Q => ∃ a xs, x = .ref a ∧ SqL K H a xs ∧ ∀ p, H p = none → Q (.ref p) (upd H p (.lst (cutV xs lo hi)))
theorem sl_list : SlR X (rSlL X.K) := by
  intro pins s σ H x v vl vu lo hi sl Q I rx hs pl pu h
  obtain ⟨a, xs, rfl, hx, q⟩ := h
  cases rx
  obtain ⟨its, r, ht, hz⟩ := I.list hx
  have hlen := r.length
  refine ⟨"list", _, slot_list_getitem.lookup, ht.isList.typeIs, ?_⟩
  refine wpAny_getItem_list_slice ht.isList hs pl pu .none (by simp) ?_ (by rw [List.size_toArray] <;> omega)
  rw [slicePick_cut, ← hlen]
  refine ⟨.ref s.heap.objs.size, _, I.laid (t' := s.toks) (o := .lst (cutV xs lo hi)) (fun b ob q => Heap.get?_push_of_some _ q) (Nat.le_refl _) ?_, rfl, q _ (I.hok.fresh (Nat.le_refl _))⟩
  exact ⟨Nat.le_trans (cutV_length xs lo hi) hz, _, 0, (r.drop (HT.sIx xs.length 0 lo)).take (HT.sIx xs.length xs.length hi - HT.sIx xs.length 0 lo), Heap.get?_push_size _ rfl⟩

/-! ### in, not in: flat items -/
def flatV : V → Bool
  | .non => true
  | .bl _ => true
  | .int _ => true
  | .str _ => true
  | _ => false
/-- == of flat values -/
def eqV : V → V → Bool
  | .non, .non => true
  | .bl a, .bl b => a == b
  | .bl a, .int b => (if a then 1 else 0) == b
  | .int a, .bl b => a == (if b then 1 else 0)
  | .int a, .int b => a == b
  | .str a, .str b => a == b
  | _, _ => false
theorem eqAt_V {A : Around} {s : Shared} {y x : V} {u v : Value} (ry : RelV y u) (rx : RelV x v) (fy : flatV y = true) (fx : flatV x = true) : SeqAt.EqAt A s u v (eqV y x) := by
  cases y with
  | non =>
    cases ry
    cases x with
    | non => cases rx; exact SeqAt.EqAt.same _
    | bl b => cases rx; exact SeqAt.EqAt.none_bool b
    | int b => obtain ⟨t, rfl⟩ := rx; exact SeqAt.EqAt.none_int b t
    | str b => obtain ⟨t, rfl⟩ := rx; exact SeqAt.EqAt.none_str b t
    | _ => exact absurd (show false = true from fx) Bool.false_ne_true
  | bl a =>
    cases ry
    cases x with
    | non => cases rx; exact SeqAt.EqAt.bool_none a
    | bl b => cases rx; exact SeqAt.EqAt.bool_bool a b
    | int b => obtain ⟨t, rfl⟩ := rx; exact SeqAt.EqAt.bool_int a b t
    | str b => obtain ⟨t, rfl⟩ := rx; exact SeqAt.EqAt.bool_str a b t
    | _ => exact absurd (show false = true from fx) Bool.false_ne_true
  | int a =>
    obtain ⟨t', rfl⟩ := ry
    cases x with
    | non => cases rx; exact SeqAt.EqAt.int_none a t'
    | bl b => cases rx; exact SeqAt.EqAt.int_bool a t' b
    | int b => obtain ⟨t, rfl⟩ := rx; exact SeqAt.EqAt.int_int a t' b t
    | str b => obtain ⟨t, rfl⟩ := rx; exact SeqAt.EqAt.int_str a t' b t
    | _ => exact absurd (show false = true from fx) Bool.false_ne_true
  | str a =>
    obtain ⟨t', rfl⟩ := ry
    cases x with
    | non => cases rx; exact SeqAt.EqAt.str_none a t'
    | bl b => cases rx; exact SeqAt.EqAt.str_bool a t' b
    | int b => obtain ⟨t, rfl⟩ := rx; exact SeqAt.EqAt.str_int a t' b t
    | str b => obtain ⟨t, rfl⟩ := rx; exact SeqAt.EqAt.str_str a t' b t
    | _ => exact absurd (show false = true from fx) Bool.false_ne_true
  | _ => exact absurd (show false = true from fy) Bool.false_ne_true
/-- the items' answers, read off the values (a value's own answer does not lean on its token) -/
def eqU (x : V) (u : Value) : Bool := match u with
  | .none => eqV .non x
  | .bool b => eqV (.bl b) x
  | .int i _ => eqV (.int i) x
  | .str z _ => eqV (.str z) x
  | _ => false
theorem eqU_of {x y : V} {u : Value} (r : RelV y u) (f : flatV y = true) : eqU x u = eqV y x := by
  cases y with
  | non => cases r; rfl
  | bl b => cases r; rfl
  | int i => obtain ⟨t, rfl⟩ := r; rfl
  | str z => obtain ⟨t, rfl⟩ := r; rfl
  | _ => exact absurd (show false = true from f) Bool.false_ne_true
theorem any_eqU {x : V} : ∀ {xs : List V} {us : List Value}, Vals xs us → xs.all flatV = true → us.any (eqU x) = xs.any fun y => eqV y x
  | _, _, .nil, _ => rfl
  | y :: xs, u :: us, .cons r t, f => by
    rw [List.all_cons, Bool.and_eq_true] at f
    rw [List.any_cons, List.any_cons, eqU_of r f.1, any_eqU t f.2]
theorem mem_eqAt {A : Around} {s : Shared} {x : V} {v : Value} (rx : RelV x v) (fx : flatV x = true) : ∀ {xs : List V} {us : List Value}, Vals xs us → xs.all flatV = true → ∀ u ∈ us, SeqAt.EqAt A s u v (eqU x u)
  | _, _, .nil, _ => fun u hu => by cases hu
  | y :: xs, u :: us, .cons r t, f => fun u' hu => by
    rw [List.all_cons, Bool.and_eq_true] at f
    rcases List.mem_cons.mp hu with rfl | hu
    · rw [eqU_of r f.1]; exact eqAt_V r rx f.1 fx
    · exact mem_eqAt rx fx t f.2 u' hu
def inV (x : V) (xs : List V) : Bool := xs.any fun y => eqV y x
/-- x in a list or tuple of flat items -/
def rIn (K : PySem.W.Frag) (neg : Bool) : R2 := fun x y H Q => ∃ p xs, y = .ref p ∧ (SqL K H p xs ∨ SqT K H p xs) ∧ flatV x = true ∧ xs.all flatV = true ∧ Q (.bl (if neg then !inV x xs else inV x xs)) H
theorem op_in_seq : OpR X (compareOp .In) (rIn X.K false) := by
  intro pins s σ H x y v u Q I rx ry h
  obtain ⟨p, xs, rfl, hq, fx, fs, q⟩ := h
  cases ry
  rcases hq with hq | hq
  · obtain ⟨its, r, pl, hz⟩ := I.list hq
    refine SeqAt.in_listAt (eqU x) pl.isList (fun w hw => mem_eqAt rx fx r fs w (by simpa using hw)) ⟨.bl _, H, I, rfl, ?_⟩
    rw [show its.toArray.any (eqU x) = its.any (eqU x) by simp, any_eqU r fs]
    exact q
  · obtain ⟨its, r, pl, hz⟩ := I.tuple hq
    refine SeqAt.in_tupleAt (eqU x) pl (fun w hw => mem_eqAt rx fx r fs w (by simpa using hw)) ⟨.bl _, H, I, rfl, ?_⟩
    rw [show its.toArray.any (eqU x) = its.any (eqU x) by simp, any_eqU r fs]
    exact q
/-! ### len, list(x), tuple(x) of any list or tuple that is read -/
theorem call_len_seq : CallR X (.builtin "len") (fun xs H Q => ∃ p ys, xs = [.ref p] ∧ (SqL X.K H p ys ∨ SqT X.K H p ys) ∧ Q (.int ys.length) H) := by
  intro pins s σ H xs us Q I r h
  obtain ⟨p, ys, rfl, hq, q⟩ := h
  obtain ⟨u, rfl, rx⟩ := vals1 r
  cases rx
  have hn := line63
  rcases hq with hq | hq
  · obtain ⟨its, r', pl, hz⟩ := I.list hq
    have hlen := r'.length
    exact Calls.call_len_list pl.isList (by simp only [List.size_toArray] <;> omega) ⟨.int ys.length, H, I.tok _, ⟨s.toks + 1, by rw [List.size_toArray, hlen]⟩, q⟩
  · obtain ⟨its, r', pl, hz⟩ := I.tuple hq
    have hlen := r'.length
    exact len_tuple pl (by simp only [List.size_toArray] <;> omega) ⟨.int ys.length, H, I.tok _, ⟨s.toks + 1, by rw [List.size_toArray, hlen]⟩, q⟩
theorem call_list_of : CallR X (.type "list") (fun xs H Q => ∃ p ys, xs = [.ref p] ∧ (SqL X.K H p ys ∨ SqT X.K H p ys) ∧ ∀ l, H l = none → Q (.ref l) (upd H l (.lst ys))) := by
  intro pins s σ H xs us Q I r h
  obtain ⟨p, ys, rfl, hq, q⟩ := h
  obtain ⟨u, rfl, rx⟩ := vals1 r
  cases rx
  have fin : ∀ (its : List Value), Vals ys its → ys.length ≤ sizeLine → ∀ (h' : Heap) (c' : Nat), (∀ b o', s.heap.get? b = some o' → h'.get? b = some o') →
      h'.get? s.heap.objs.size = some { cls := .type "list", dict := none, data := .seq its.toArray c', slots := #[] } → EP X pins σ Q (.ref s.heap.objs.size) { s with heap := h' } := fun its r' hz h' c' kp e =>
    ⟨.ref s.heap.objs.size, _, I.laid (t' := s.toks) kp (Nat.le_refl _) (show ObjOk X.prog X.w _ h' _ (.lst ys) from ⟨hz, its, c', r', e⟩), rfl, q _ (I.hok.fresh (Nat.le_refl _))⟩
  rcases hq with hq | hq
  · obtain ⟨its, r', pl, hz⟩ := I.list hq
    have hlen := r'.length
    obtain ⟨o, ho, hc, n, hd⟩ := pl.isList
    exact call_list_seq p (.inl rfl) ho hc hd (fun h' c' kp e => fin its r' hz h' c' kp e) (by simp only [List.size_toArray] <;> omega)
  · obtain ⟨its, r', pl, hz⟩ := I.tuple hq
    have hlen := r'.length
    obtain ⟨o, ho, hc, n, hd⟩ := pl
    exact call_list_seq p (.inr rfl) ho hc hd (fun h' c' kp e => fin its r' hz h' c' kp e) (by simp only [List.size_toArray] <;> omega)
/-! ### the call of a builtin's method: o.m(..) -/
/-- the value is of that builtin type -/
def tyV (K : PySem.W.Frag) (T : String) (x : V) (H : Hp) : Prop := match x with
  | .str _ => T = "str"
  | .int _ => T = "int"
  | .ref p => (T = "list" ∧ ∃ xs, SqL K H p xs) ∨ (T = "tuple" ∧ ∃ o, K.lookup p = some o ∧ o.cls = .type "tuple" ∧ o.dict = none) ∨
      (T = "dict" ∧ ((∃ kvs, H p = some (.dK kvs)) ∨ ∃ kvs, H p = some (.dT kvs))) ∨ (T = "set" ∧ ∃ S n, H p = some (.set S n))
  | _ => False
theorem tyV_is {pins : List (Addr × Obj)} {σ : St} {H : Hp} {s : Shared} {T : String} {x : V} {v : Value} (I : Inv X pins σ H s) (r : RelV x v) (ty : tyV X.K T x H) :
    s.TypeIs v T ∧ ∀ a, v = .ref a → ∃ ob, s.heap.get? a = some ob ∧ ob.dict = none := by
  cases x with
  | str z =>
    obtain ⟨t, rfl⟩ := r
    cases (show T = "str" from ty)
    exact ⟨typeIs_str s z t, fun _ e => nomatch e⟩
  | int i =>
    obtain ⟨t, rfl⟩ := r
    cases (show T = "int" from ty)
    exact ⟨typeIs_int s i t, fun _ e => nomatch e⟩
  | ref p =>
    cases r
    rcases ty with ⟨rfl, xs, hq⟩ | ⟨rfl, o, hk, hc, hd⟩ | ⟨rfl, hk⟩ | ⟨rfl, S, n, hk⟩
    · obtain ⟨its, _, pl, _⟩ := I.list hq
      refine ⟨pl.isList.typeIs, fun a e => ?_⟩
      cases e
      obtain ⟨o, n, e, c, hd, _⟩ := pl
      exact ⟨o, e, hd⟩
    · refine ⟨⟨o, I.kIn p o hk, hc⟩, fun a e => ?_⟩
      cases e
      exact ⟨o, I.kIn _ o hk, hd⟩
    · have z : ∃ o, s.heap.get? p = some o ∧ o.ExactDict := by
        rcases hk with ⟨kvs, hk⟩ | ⟨kvs, hk⟩
        · obtain ⟨_, _, _, _, o, _, _, e, ex, _⟩ := I.hok p _ hk
          exact ⟨o, e, ex⟩
        · obtain ⟨_, _, _, _, o, _, _, e, ex, _⟩ := I.hok p _ hk
          exact ⟨o, e, ex⟩
      obtain ⟨o, e, ex⟩ := z
      refine ⟨⟨o, e, ex.1⟩, fun a e2 => ?_⟩
      cases e2
      exact ⟨o, e, ex.2.1⟩
    · obtain ⟨o, _, _, _, e, ex, _⟩ := I.hok p _ hk
      refine ⟨⟨o, e, ex.1⟩, fun a e2 => ?_⟩
      cases e2
      exact ⟨o, e, ex.2.1⟩
  | _ => exact False.elim ty
def tBM (K : PySem.W.Frag) (T : String) (r : V → List V → Hp → VK → Prop) (to : TE) (t : TA) : TE := fun σ H Q => to σ H fun x H1 => tyV K T x H1 ∧ t σ H1 fun xs H2 => r x xs H2 Q
variable {o e : Expr} {es : List Expr} {to : TE} {t : TA} {name : Str} {apos cpos : Pos} {T id : String} {r : V → List V → Hp → VK → Prop}
theorem pe_bm (pa : PlainAttrs T) (slot : Slot T name id) (hty : typeOf (.builtin id) = pure (.type "method_descriptor")) (hm : MtR X id r) (ho : PE X o to) (ha : PA X (e :: es) t)
    (hbase : attributeBase o name X.env (eval o X.env) = eval o X.env := by rfl)
    (hfew : ((backTo cpos (starEach (e :: es) X.env)).all (fun x => !x.1) && (backToKw cpos (keywordEach [] X.env)).all (fun x => x.1.isSome)
      && decide ((e :: es).length + ([] : List Keyword).length + (if ([] : List Keyword).isEmpty then 0 else 1) < 30)) = true := by rfl)
    (hline : (apos.endLine == cpos.line) = true := by rfl) (hs : starEach (e :: es) X.env = (false, eval e X.env) :: starEach es X.env := by rfl) (hplain : (backTo cpos (starEach es X.env)).any (·.1) = false := by rfl) :
    PE X (.Call (.Attribute o name apos) (e :: es) [] cpos) (tBM X.K T r to t) := by
  intro pins s σ H Q I h
  refine wpAny_Call_method_late hbase hfew hline rfl (thn (ho pins s σ H _ I h) fun v s1 ⟨x, H1, I1, r1, ty, q1⟩ => ?_)
  obtain ⟨h1, h2⟩ := tyV_is I1 r1 ty
  refine ⟨T, id, pa, slot, hty, h1, h2, ?_⟩
  have hA := ha cpos pins s1 σ H1 _ I1 q1
  rw [hs] at hA ⊢
  refine Calls.callWith_builtin (by show (false || (backTo cpos (starEach es X.env)).any (·.1)) = false; rw [hplain] <;> rfl) (Calls.evalArgs_plain ?_)
  exact thn hA fun us s2 ⟨vs, H2, I2, r2, q2⟩ => hm pins s2 σ H2 x vs v us Q I2 r1 r2 q2
/- xs.append(e), list.index on a module's tuple .. are MtR facts of 06m -/
end
end L2

namespace L2
open PySem PySem.Spec PyProof.Rows

def MtM (X : Cx) (id : String) (r : V → List V → Hp → VK → Prop) : Prop :=
  ∀ (pins : List (Addr × Obj)) (s : Shared) (σ : St) (H : Hp) (x : V) (xs : List V) (v : Value) (us : List Value) (Q : VK), Inv X pins σ H s → RelV x v → Vals xs us → r x xs H Q →
    wpAny (model X.prog X.w) X.A (call (.builtin id) (v :: us)) (EP X pins σ Q) X.xe s

/-! ### lists of values -/
theorem Vals.one {x : V} {us : List Value} (h : Vals [x] us) : ∃ u, us = [u] ∧ RelV x u := by
  cases h with
  | cons r t => cases t; exact ⟨_, rfl, r⟩
theorem Vals.rep {xs : List V} {us : List Value} (h : Vals xs us) : ∀ k : Nat, Vals (List.replicate k xs).flatten (List.replicate k us).flatten
  | 0 => .nil
  | k + 1 => by
    rw [List.replicate_succ, List.replicate_succ, List.flatten_cons, List.flatten_cons]
    exact Vals.append h (Vals.rep h k)
theorem foldl_rep (its : List Value) : ∀ (k : Nat) (acc : List Value),
    List.foldl (fun x1 x2 => x1 ++ x2) acc.toArray (List.replicate k its.toArray) = (acc ++ (List.replicate k its).flatten).toArray
  | 0, acc => by simp
  | k + 1, acc => by
    have e : acc.toArray ++ its.toArray = (acc ++ its).toArray := by simp
    have e2 : (acc ++ its) ++ (List.replicate k its).flatten = acc ++ (List.replicate (k + 1) its).flatten := by
      rw [List.replicate_succ, List.flatten_cons, List.append_assoc]
    rw [← e2, ← foldl_rep its k (acc ++ its), ← e, List.replicate_succ, List.foldl_cons]

section
variable {X : Cx} {pins : List (Addr × Obj)} {σ : St} {H : Hp} {s : Shared} {l b : Addr} {xs ys zs : List V}

/-! ### the two steps: a tracked list is rewritten, a new list is laid -/
theorem Inv.lset {its its' : List Value} {n : Nat} {f : Array Value → Array Value} {t' : Nat} (I : Inv X pins σ H s) (hH : H l = some (.lst xs))
    (e : s.heap.get? l = some { cls := .type "list", data := .seq its.toArray n }) (hf : f its.toArray = its'.toArray) (hv : Vals ys its') (hz : ys.length ≤ sizeLine) :
    Inv X pins σ (upd H l (.lst ys)) { s with heap := s.heap.update l (Obj.mapSeq f), toks := t' } := by
  have q := PySem.IsL.update e f
  rw [hf] at q
  refine I.write (x := l) (e := l) (by rw [hH]; exact trivial) (.inl rfl) (fun b' u hb hu => (Heap.get?_update_other s.heap (Obj.mapSeq f) (Ne.symm hb)).trans hu) ⟨_, q⟩ ?_
  exact ⟨hz, its', _, hv, q⟩
theorem Inv.lnew {its : List Value} {t' : Nat} (I : Inv X pins σ H s) (hv : Vals ys its) (hz : ys.length ≤ sizeLine) :
    Inv X pins σ (upd H s.heap.objs.size (.lst ys)) { s with heap := s.heap.push { cls := .type "list", data := .seq its.toArray }, toks := t' } :=
  I.laid (fun _ _ q => Heap.get?_push_of_some _ q) (Nat.le_refl _) ⟨hz, its, 0, hv, Heap.get?_push_size _ rfl⟩
theorem Inv.fresh (I : Inv X pins σ H s) : H s.heap.objs.size = none := I.hok.fresh (Nat.le_refl _)
theorem Inv.lstM (I : Inv X pins σ H s) (hH : H l = some (.lst xs)) : xs.length ≤ sizeLine ∧ ∃ (its : List Value) (n : Nat), Vals xs its ∧ xs.length = its.length ∧ s.heap.get? l = some { cls := .type "list", data := .seq its.toArray n } := by
  obtain ⟨z, its, n, r, e⟩ := I.hok l _ hH
  exact ⟨z, its, n, r, r.length, e⟩

theorem notLongL {n : Nat} (h : n ≤ sizeLine) : Builtin.List.listTooLong n = false := by
  unfold Builtin.List.listTooLong
  exact decide_eq_false (by omega)
end

section
variable {X : Cx}

/-! ### methods -/
def rAppend : V → List V → Hp → VK → Prop := fun x vs H Q => ∃ l xs y, x = .ref l ∧ vs = [y] ∧ H l = some (.lst xs) ∧ xs.length < sizeLine ∧ Q .non (upd H l (.lst (xs ++ [y])))
theorem mt_append : MtM X "list.append" rAppend := by
  intro pins s σ H x vs v us Q I rx rv h
  obtain ⟨l, xs, y, rfl, rfl, hH, hz, q⟩ := h
  cases rx
  obtain ⟨u, rfl, ru⟩ := rv.one
  obtain ⟨z, its, n, r, hl, e⟩ := I.lstM hH
  refine call_meets F.slot_list_append ⟨_, e, rfl⟩ F.entry_list_append (F.args_list_append_2 _ _) (PySem.list_append l its.toArray n u (by rw [List.size_toArray]; omega)) ⟨e, ?_⟩
  refine ⟨.non, _, I.lset (its' := its ++ [u]) hH e (by simp) (r.append (.cons ru .nil)) ?_, rfl, q⟩
  rw [List.length_append, List.length_singleton]
  omega

/-! ### list + list, list += list, list * int -/
def rCat : R2 := fun x y H Q => ∃ l b xs zs, x = .ref l ∧ y = .ref b ∧ H l = some (.lst xs) ∧ H b = some (.lst zs) ∧ xs.length + zs.length ≤ sizeLine ∧ ∀ p, H p = none → Q (.ref p) (upd H p (.lst (xs ++ zs)))
theorem op_cat : OpR X (binaryOp .Add) rCat := by
  intro pins s σ H x y v u Q I rx ry h
  obtain ⟨l, b, xs, zs, rfl, rfl, hH, hB, hz, q⟩ := h
  cases rx
  cases ry
  obtain ⟨z, its, n, r, hl, e⟩ := I.lstM hH
  obtain ⟨z2, its2, n2, r2, hl2, e2⟩ := I.lstM hB
  refine PySem.P.add_list e e2 ?_ (by rw [List.size_toArray, List.size_toArray]; omega)
  have ea : its.toArray ++ its2.toArray = (its ++ its2).toArray := by simp
  rw [ea]
  exact ⟨.ref _, _, I.lnew (t' := s.toks) (r.append r2) (by rw [List.length_append]; omega), rfl, q _ I.fresh⟩
/-- a list times an int (a negative one is nothing) -/
def rRep : R2 := fun x y H Q => ∃ l k xs, x = .ref l ∧ y = .int k ∧ H l = some (.lst xs) ∧ -(2 ^ 63) ≤ k ∧ k < 2 ^ 63 ∧ xs.length * k.toNat ≤ sizeLine ∧
  ∀ p, H p = none → Q (.ref p) (upd H p (.lst (List.replicate k.toNat xs).flatten))
theorem len_rep {α : Type} (xs : List α) (k : Nat) : (List.replicate k xs).flatten.length = k * xs.length := by
  induction k with
  | zero => simp
  | succ k ih => rw [List.replicate_succ, List.flatten_cons, List.length_append, ih, Nat.succ_mul, Nat.add_comm]
theorem op_rep : OpR X (binaryOp .Mult) rRep := by
  intro pins s σ H x y v u Q I rx ry h
  obtain ⟨l, k, xs, rfl, rfl, hH, h1, h2, hz, q⟩ := h
  cases rx
  obtain ⟨t, rfl⟩ := ry
  obtain ⟨z, its, n, r, hl, e⟩ := I.lstM hH
  have hlen : its.toArray.size * k.toNat ≤ sizeLine := by rw [List.size_toArray, ← hl]; exact hz
  have hcap : ¬ its.toArray.size * k.toNat > (2 ^ 63 - 1) / 8 := by
    have : (sizeLine : Nat) ≤ (2 ^ 63 - 1) / 8 := by decide
    omega
  have hfit : ¬ (!Builtin.List.listFitsIndex k) = true := by
    rw [fitsIndex_both h1 h2]
    exact Bool.false_ne_true
  have hlong : ¬ Builtin.List.listTooLong (its.toArray.size * k.toNat) = true := by
    rw [notLongL hlen]
    exact Bool.false_ne_true
  have hnew : List.foldl (fun x1 x2 => x1 ++ x2) #[] (List.replicate (if its.toArray.isEmpty = true then 0 else k.toNat) its.toArray) = (List.replicate k.toNat its).flatten.toArray := by
    have f0 : ∀ m : Nat, List.foldl (fun x1 x2 => x1 ++ x2) #[] (List.replicate m its.toArray) = (List.replicate m its).flatten.toArray := fun m => by
      have := foldl_rep its m []
      rw [List.nil_append] at this
      exact this
    rw [f0]
    cases its with
    | nil => simp
    | cons a r' => rw [if_neg (by simp)]
  refine wpAny_binaryOp_repeat_ref (T := "list") (U := "int") (by decide) ⟨_, e, rfl⟩ (fun s' => typeIs_int s' k t) noFill_list_mul F.fills_int_mul F.slot_int_rmul repeat_list F.slot_int_index.lookup
    (call_meets F.slot_int_rmul (typeIs_int s k t) F.entry_int_rmul (F.args_int_rmul_2 _ _) (int___rmul___int_list k t l its.toArray n)
      ⟨e, rfl, ⟨_, e, rfl⟩, call_meets F.slot_list_mul ⟨_, e, rfl⟩ F.entry_list_mul (F.args_list_mul_2 _ _) (AutoListH.list___mul___list_int_3 l its.toArray n k t hfit hcap hlong) ⟨e, ?_⟩⟩)
  rw [hnew]
  exact ⟨.ref _, _, I.lnew (t' := s.toks) (r.rep k.toNat) (by rw [len_rep, Nat.mul_comm]; exact hz), rfl, q _ I.fresh⟩

/-! ### del xs[i] -/
end

/-! ### xs[a:b] = ys -/
section
variable {prog : Program} {w : World} {A : Around} {E : Value → Shared → Prop} {s : Shared}
end

section
variable {X : Cx}
end
end L2

namespace L2
open PySem PySem.Spec PyProof.Rows

/-! ### lists of pairs as tables -/
section
variable {κ : Type} [DecidableEq κ]
end


/-! ### a tracked dict, its keys ints and texts or tuples of these -/
section
variable {P : Program} {w : World} {H : Hp} {h : Heap} {a : Addr}
end

section
variable {X : Cx} {pins : List (Addr × Obj)} {σ : St} {H : Hp} {s : Shared} {a : Addr} {y v : V} {u r : Value} {o : Option V} {A : Around} {E : Value → Shared → Prop}

end

section
variable {X : Cx} {pins : List (Addr × Obj)} {σ : St} {H : Hp} {s : Shared} {a : Addr} {kvs : List (Key × V)} {k : Key} {u : Value} {A : Around} {E : Value → Shared → Prop}
end


/-! ### readings and rules -/
section
variable {X : Cx} {o i e value : Expr} {pos pos' tpos : Pos} {td ty tv : TE}
end


/-! ### displays -/
section
variable {X : Cx} {pos : Pos}
end

/-! ### methods -/
/-- a method call o.m(e) of a built-in, with one argument: what must be seen of the text -/
structure M1 (X : Cx) (o : Expr) (m : Str) (apos : Pos) (e : Expr) (cpos : Pos) : Prop where
  base : attributeBase o m X.env (eval o X.env) = eval o X.env
  few : ((backTo cpos (starEach [e] X.env)).all (fun x => !x.1) && (backToKw cpos (keywordEach [] X.env)).all (fun x => x.1.isSome)
    && decide (([e] : List Expr).length + ([] : List Keyword).length + (if ([] : List Keyword).isEmpty then 0 else 1) < 30)) = true
  line : (apos.endLine == cpos.line) = true
  trees : backTo cpos (starEach [e] X.env) = [(false, eval e X.env)]
structure M2 (X : Cx) (o : Expr) (m : Str) (apos : Pos) (e f : Expr) (cpos : Pos) : Prop where
  base : attributeBase o m X.env (eval o X.env) = eval o X.env
  few : ((backTo cpos (starEach [e, f] X.env)).all (fun x => !x.1) && (backToKw cpos (keywordEach [] X.env)).all (fun x => x.1.isSome)
    && decide (([e, f] : List Expr).length + ([] : List Keyword).length + (if ([] : List Keyword).isEmpty then 0 else 1) < 30)) = true
  line : (apos.endLine == cpos.line) = true
  trees : backTo cpos (starEach [e, f] X.env) = [(false, eval e X.env), (false, eval f X.env)]

section
variable {X : Cx} {pins : List (Addr × Obj)} {σ : St} {H : Hp} {s : Shared} {a : Addr} {y d : V} {u r : Value} {o : Option V} {A : Around} {E : Value → Shared → Prop}
end

section
variable {X : Cx} {o e f : Expr} {apos cpos : Pos} {td ty tx : TE}
end

/-! ### dict(d): a copy -/
section
variable {X : Cx} {pins : List (Addr × Obj)} {σ : St} {H : Hp} {s : Shared} {a : Addr} {kvs : List (Key × V)} {A : Around} {E : Value → Shared → Prop}
end


section
variable {X : Cx} {pins : List (Addr × Obj)} {σ : St} {H : Hp} {s : Shared} {a : Addr} {y : V} {u : Value} {A : Around} {E : Value → Shared → Prop}
end
end L2

namespace Att
open PySem PySem.W PySem.Calls PyProof.Rows

/-! ### the script -/
theorem ints_of_wellAll {P : Params} {h : Heap} : ∀ (ns : List Int) (vs : List Value), WellAll P h vs (ns.map WData.int) → IntsAre vs ns := by
  intro ns
  induction ns with
  | nil =>
    intro vs w
    rw [List.map_nil] at w
    cases w
    exact .nil
  | cons n ns ih =>
    intro vs w
    rw [List.map_cons] at w
    cases w with
    | cons a b =>
      cases a
      exact .cons _ _ (ih _ b)

theorem script_of {l : OpenLaw} {n : Nat} (hn : l.most = some n) {P : Params} {h : Heap} {args : List WData} {vals : List Value}
    (hpre : l.row.toRowW.claim.pre args = true) (hwl : WellAll P h vals args) :
    ∃ a vs ns, vals = [Value.ref a] ∧ args = [WData.list (ns.map WData.int)] ∧ h.get? a = some { cls := .type "list", data := .seq vs.toArray } ∧ IntsAre vs ns ∧ ns.length ≤ n := by
  have hsh : WShape.hasAll [] args [.list .int] = true := (pre_splitW hpre).1
  have hc : l.pre.holds [] { args := args } = true := (pre_splitW hpre).2
  obtain ⟨d, r, rfl, h1, h2⟩ := hasAllW_cons hsh
  obtain rfl := hasAllW_nil h2
  obtain ⟨xs, rfl, h3⟩ := hasW_list h1
  obtain ⟨ns, rfl⟩ := items_int h3
  have hlen : ns.length ≤ n := by
    unfold OpenLaw.pre at hc
    have h4 : (WTm.not (.lt (.lit (.int (n : Int))) (.len (.arg 0)))).holds [] { args := [.list (ns.map .int)] } = true := by
      have h4 := (holds_andW hc).1
      rw [hn] at h4
      exact h4
    have h5 := condW_of h4 (w_not (w_lt w_lit (w_len_list (w_arg rfl))))
    rw [List.length_map] at h5
    refine Nat.le_of_not_lt fun q => ?_
    have q' : (n : Int) < ((ns.length : Nat) : Int) := by omega
    first
      | (rw [decide_eq_true q'] at h5; exact absurd h5 (by decide))
      | (simp at h5; omega)
  cases hwl with
  | cons w1 w2 =>
    cases w2
    cases w1 with
    | list ho hall => exact ⟨_, _, ns, rfl, rfl, ho, ints_of_wellAll ns _ hall, hlen⟩

theorem post_true (l : OpenLaw) (args : List WData) : l.row.toRowW.claim.post args (.bool true) args = true :=
  postW_of (r := l.row.toRowW) (X := (true == true))
    (show WShape.has [] (.bool true) .bool = true by first | rfl | decide | simp [WShape.has, WShape.arms, WShape.armsAll])
    (show (WTm.eq .res (.lit (.bool true))).value [] { args := args, res := some (.bool true), after := args } = some (.bool (true == true)) from w_eq_bool (w_res rfl) w_lit) rfl

/-! ### the attachment: holds_open's last premise (the goal 'hc' behind k_head) from a wpAny of the law's body -/
/-- the same from a codeAny of the CALL (for a layer whose function contracts speak of calls) -/
theorem attach_call {l : OpenLaw} {n : Nat} {q : Program} {loose : List Str} {XP : (Str → Option Value) → Heap → Prop} {YP : World → Heap → Prop} {d : DefRec}
    (hn : l.most = some n) (hdf : d.params.defaults = [])
    (call : ∀ (w : World) (s₀ s₁ : Shared) (mg mb : Str → Option Value) (fa : Addr) (o : Obj) (pm cd doc : Value) (a : Addr) (vs : List Value) (ns : List Int),
      Ground q loose [] XP w s₀ mg mb s₁.heap → YP w s₁.heap →
      s₁.heap.get? fa = some o → o.data = .func (docDef d.name d.params d.body d.scope pm cd doc) → s₁.heap.CodeRec cd d.name → mg d.name = some (.ref fa) →
      s₁.heap.get? a = some { cls := .type "list", data := .seq vs.toArray } → IntsAre vs ns → ns.length ≤ n → s₁.gens = #[] →
      codeAny (model l.prog w) callerA (.call (.ref fa) ⟨[.ref a], []⟩) (fun r s' => r = .ok (.ret (.bool true)) ∧ OldK s₁.heap s'.heap ∧ s'.os = s₁.os ∧ AllBare s'.gens) s₁) :
    WalkO q loose XP YP l.row.toRowW d [] (fun f vs => PySem.call f vs) := by
  intro w s₀ s₁ mg mb G Y fa o pm cd doc dV kV ho hd hcd hD hmg hg args vals as hpre hlay hrd hwl hlo
  obtain rfl : dV = .none := Dflts.none hD hdf
  obtain rfl : kV = .none := Dflts.noKw hD
  obtain ⟨a, vs, ns, rfl, rfl, hobj, hints, hlen⟩ := script_of hn hpre hwl
  refine enter_call (codeAny_mono (call w s₀ s₁ mg mb fa o pm cd doc a vs ns G Y ho (fd_plain hd) hcd hmg hobj hints hlen hg) fun r s' hq => ?_)
  obtain ⟨rfl, h2, h3, h4⟩ := hq
  exact ⟨.inl ⟨.bool true, .bool true, [], rfl, fun _ => rfl, .bool true, post_true l _, fun _ => ⟨List.Pairwise.nil, fun _ hm => (nomatch hm)⟩⟩, h2, h3, h4⟩

/-! ### rules over ANY heap (no ledger) from facts about the written part K: the library's own take a ledger (News) for what they write -/
section
variable {prog : Program} {w : World} {A : Around} {E : Value → Shared → Prop} {s : Shared} {K : Frag}

/-! the whole heap as the ledger: makes every rule that writes through a ledger a rule over any heap -/
def ledger (h : Heap) (L d : Addr) : List (Addr × Obj) := (List.range h.objs.size).filterMap fun a => if a = L ∨ a = d then none else (h.get? a).map fun o => (a, o)
end
end Att

namespace L2
open PySem PySem.Spec PyProof.Rows

theorem vals_ints {vs : List Value} {ns : List Int} (h : IntsAre vs ns) : Vals (ns.map V.int) vs := by
  induction h with
  | nil => exact .nil
  | cons n t h ih => exact .cons ⟨t, rfl⟩ ih

/-- nothing is tracked but the script, known to the object (or it is an object of the module) -/
def Only (H : Hp) : Prop := ∀ b, H b = none ∨ ∃ o xs, H b = some (.frz o (.lst xs))

/-- THE HEAD: the law's promise, at the heap behind the top. F, the promise of the law's def, may use that base is part of the heap (so K.In base, base.Ns mainGlobals mg stand in Mod) -/
theorem law_call {P : Program} {w : World} {K : PySem.W.Frag} {mg mb : Str → Option Value} {CX : CXT} {k : Nat} {fa a : Addr} {fd : FuncData} {x : Str} {sp : Sp} {s₁ : Shared} {vs : List Value} {ns : List Int}
    (KX : K.In s₁.heap) (hns : s₁.heap.Ns mainGlobals mg) (hb : s₁.heap.Ns builtinsNs mb) (hbb : ∀ x : Str, x ≠ "__name__" → mb x = bootBuiltins x) (hlim : s₁.heap.NoLimit) (hg : s₁.gens = #[])
    (ha : s₁.heap.get? a = some { cls := .type "list", data := .seq vs.toArray }) (hi : IntsAre vs ns) (hl : ns.length ≤ sizeLine) (hr : Room k callerA)
    (F : ∀ base : Heap, K.In base → base.Ns mainGlobals mg → FnOk P w K mg base CX k fa fd [x] sp) (hbind : ∀ (s : Shared) (u : Value), BindsTo s fd ⟨[u], []⟩ [(x, u)])
    (hsp : ∀ H : Hp, Only H → SqL K H a (ns.map V.int) → sp [.ref a] H (fun v _ => v = .bl true) fun _ _ _ => False)
    (hCX : ∀ H e s', CX [] H s₁ (fun _ _ _ => False) e s' → False) :
    codeAny (model P w) callerA (.call (.ref fa) ⟨[.ref a], []⟩) (fun r s' => r = .ok (.ret (.bool true)) ∧ OldK s₁.heap s'.heap ∧ s'.os = s₁.os ∧ AllBare s'.gens) s₁ := by
  have rv := vals_ints hi
  have lenV := hi.length
  -- from an abstract heap in which nothing but the script may be tracked
  have core : ∀ H : Hp, Only H → SqL K H a (ns.map V.int) → HOk P w H s₁.heap → (∀ b, H b ≠ none → b = a) → (H a ≠ none → K.lookup a = none) →
      codeAny (model P w) callerA (.call (.ref fa) ⟨[.ref a], []⟩) (fun r s' => r = .ok (.ret (.bool true)) ∧ OldK s₁.heap s'.heap ∧ s'.os = s₁.os ∧ AllBare s'.gens) s₁ := by
    intro H hO hS hok hA hK
    have base_of : ∀ {b : Addr} {o : Obj}, s₁.heap.get? b = some o → H b = none → (hidT s₁.heap H).get? b = some o := fun e n => hidT_get e n
    have noA : ∀ {b : Addr} {o : Obj} {es : Array DictEntry} {ep : Nat}, s₁.heap.get? b = some o → o.data = .dict es ep → H b = none := fun {b o es ep} e d => by
      cases q : H b with
      | none => rfl
      | some u =>
        have e' : b = a := hA b (by rw [q]; simp)
        subst e'
        rw [ha] at e; cases e
        have d' : Data.seq vs.toArray _ = Data.dict es ep := d
        cases d'
    have nsK : ∀ {b : Addr} {m : Str → Option Value}, s₁.heap.Ns b m → (hidT s₁.heap H).Ns b m := fun {b m} ⟨o, es, ep, e, d, r⟩ => ⟨o, es, ep, base_of e (noA e d), d, r⟩
    have hKb : K.In (hidT s₁.heap H) := fun b o e => base_of (KX b o e) (by
      cases q : H b with
      | none => rfl
      | some u =>
        have e' : b = a := hA b (by rw [q]; simp)
        subst e'
        rw [hK (by rw [q]; simp)] at e; cases e)
    have hM : Mod K mg (hidT s₁.heap H) := ⟨hKb, nsK hns, ⟨mb, nsK hb, hbb⟩, let ⟨mc, h1, h2⟩ := hlim; ⟨mc, nsK h1, h2⟩⟩
    have e0 : Env0 P w K mg (hidT s₁.heap H) callerA [] s₁ H := ⟨rfl, hM, fun b o e => of_hidT e, Nat.le_of_eq (hidT_size _ _), trivial, fun b hb => absurd (show b ∈ ([] : List Addr) from hb) (by simp), hok, .of_eq hg⟩
    refine codeAny_mono ((F _ hKb (nsK hns)).run callerA [] s₁ H ⟨[.ref a], []⟩ [.ref a] [.ref a] _ _ hr e0 (hbind s₁ (.ref a)) (.cons rfl .nil) (hsp H hO hS)) fun r s' h => ?_
    cases r with
    | error e => exact (hCX H e s' h).elim
    | ok fl =>
      cases fl with
      | next => exact False.elim h
      | brk => exact False.elim h
      | cont => exact False.elim h
      | ret u =>
        obtain ⟨v, H', os, bare, un, hok', r', q⟩ := h
        have q' : v = .bl true := q
        subst q'
        obtain rfl : u = Value.bool true := r'
        refine ⟨rfl, OldK.of_keep fun b o e => ?_, os, bare⟩
        cases q : H b with
        | none => exact un.keep b o e q (by intro z; exact absurd (show b ∈ ([] : List Addr) from z) (by simp)) (by simp)
        | some u =>
          rcases hO b with z | ⟨ob, xs, z⟩
          · rw [q] at z; cases z
          · have z2 := un.frzs b ob _ z
            obtain ⟨e1, _⟩ := hok b _ z
            obtain ⟨e2, _⟩ := hok' b _ z2
            rw [e] at e1; cases e1
            exact e2
  cases hk : K.lookup a with
  | some o =>
    -- the script is one of the module's own objects
    have e := KX a o hk
    rw [ha] at e
    cases e
    refine core (fun _ => none) (fun _ => .inl rfl) (.inr ⟨_, vs.toArray, _, hk, rfl, rfl, rfl, by rw [List.size_toArray, lenV]; exact hl, by simpa using rv⟩) (fun b u z => by have z' : (none : Option HO) = some u := z; cases z') (fun b z => absurd rfl z) fun z => absurd rfl z
  | none =>
    refine core (fun b => if b = a then some (.frz { cls := .type "list", data := .seq vs.toArray } (.lst (ns.map V.int))) else none) (fun b => ?_) (.inl (.inr ⟨{ cls := .type "list", data := .seq vs.toArray }, if_pos rfl⟩)) (fun b u z => ?_) (fun b z => ?_) fun _ => hk
    · by_cases hb : b = a
      · exact .inr ⟨_, _, if_pos hb⟩
      · exact .inl (if_neg hb)
    · by_cases hb : b = a
      · have z' := (if_pos hb).symm.trans z
        cases z'
        subst hb
        exact ⟨ha, by rw [List.length_map]; exact hl, vs, _, rv, ha⟩
      · have z' := (if_neg hb).symm.trans z
        cases z'
    · by_cases hb : b = a
      · exact hb
      · exact absurd (if_neg hb) z
end L2

namespace L2
open PySem PySem.Spec PyProof.Rows

abbrev KOf {K : PySem.W.Frag} {h : Heap} (_ : K.In h) : PySem.W.Frag := K

/-- the goal that k_head leaves (case hc), from the law's promise. F gives the function object fd (K's own) once, then the promise over every base -/
theorem walk_of {l : PySem.W.OpenLaw} {n k : Nat} {q : Program} {loose : List Str} {XP : (Str → Option Value) → Heap → Prop} {YP : World → Heap → Prop} {d : DefRec} {K : Params → PySem.W.Frag} {CX : World → CXT} {sp : World → Sp} {x : Str}
    (hn : l.most = some n) (hn2 : n ≤ sizeLine) (hdf : d.params.defaults = []) (hr : Room k callerA)
    (hY : ∀ (w : World) (h : Heap), YP w h → (K w.params).In h)
    (F : ∀ (w : World) (mg : Str → Option Value) (fa : Addr) (h : Heap), (K w.params).In h → h.Ns mainGlobals mg → mg d.name = some (.ref fa) →
      ∃ fd : FuncData, (∀ (s : Shared) (u : Value), BindsTo s fd ⟨[u], []⟩ [(x, u)]) ∧
        ∀ base : Heap, (K w.params).In base → base.Ns mainGlobals mg → FnOk l.prog w (K w.params) mg base (CX w) k fa fd [x] (sp w))
    (hsp : ∀ (w : World) (H : Hp) (a : Addr) (ns : List Int), ns.length ≤ n → Only H → SqL (K w.params) H a (ns.map V.int) → sp w [.ref a] H (fun v _ => v = .bl true) fun _ _ _ => False)
    (hCX : ∀ (w : World) (H : Hp) (s : Shared) (e : Value) (s' : Shared), CX w [] H s (fun _ _ _ => False) e s' → False) :
    PySem.W.WalkO q loose XP YP l.row.toRowW d [] (fun f vs => PySem.call f vs) := by
  refine Att.attach_call hn hdf fun w s₀ s₁ mg mb fa o pm cd doc a vs ns G Y ho hd hcd hmg hobj hints hlen hg => ?_
  have KX := hY w _ Y
  obtain ⟨fd, hb, hF⟩ := F w mg fa _ KX G.T.g hmg
  exact law_call KX G.T.g G.T.b G.T.builtins G.T.nolimit hg hobj hints (Nat.le_trans hlen hn2) hr hF hb (fun H hO hS => hsp w H a ns hlen hO hS) fun H e s' => hCX w H s₁ e s'
end L2

/- THE LAST THEOREM (shape; LID, My.* are yours):
   My.Adr: a structure of the addresses that your layer names (classes, functions); My.Txt K t: a structure (Prop) of the equations over K;
   My.txt_mk : {K} {implicit addresses ..} (e1 : nsIn K mainGlobals "law" = some (some (.ref f))) (e2 : K.lookup f = some ⟨oc, od, .func (fnOf "law" "law" params body scope dV kV doc pm an cdv ct), sl⟩) (e3 : codeIn K cdv "law" = true) .. : ∃ t, My.Txt K t

set_option maxRecDepth 100000 in
set_option maxHeartbeats 0 in
theorem PySem.Challenge.cw_LID_holds : PySem.Challenge.rw_LID.Holds := by
  w_on; o_law; k_head; (case hw => w_witness2)
  k_fill
  refine L2.walk_of (l := PySem.Challenge.rw_LID) (n := 63) (k := 40) (x := "script") (CX := fun w => ..) (sp := fun _ => My.sp_law) rfl (by decide) rfl ⟨rfl, by decide, by decide⟩ (fun w h Y => PySem.W.kIn_of Y) ?F ?S ?C
  case F =>
    intro w mg fa h KX G hmg
    have T : ∃ t, My.Txt (L2.KOf KX) t := by
      dsimp only [L2.KOf]                          -- K must stand as «<heap const> w.params» for k_is
      refine' My.txt_mk ?e1 ?e2 ?e3 ..
      (case e1 => PySem.W.k_is)                    -- in the order: a name -> its address -> its object -> its parts
      (case e2 => PySem.W.k_is)
      ..
    obtain ⟨t, T⟩ := T
    have e0 := hmg.symm.trans (PySem.W.mg_of KX G T.law)
    cases e0                                       -- fa is the law's own address
    exact ⟨_, fun s u => .of_eq rfl, fun base kb nb => My.law_fn T kb nb⟩     -- if «.of_eq rfl» comes too early: refine' ⟨_, ?b, fun base kb nb => My.law_fn T kb nb⟩; exact fun s u => .of_eq rfl
  case S => exact fun w H a ns hl hO hS => ..
  case C => exact ..
(the tactic k_is has no namespace: write k_is) -/

/-! SHORT WORDS over the layer: a def of the text, its body, what a loop and a test want. -/
namespace L2
open PySem PySem.Spec PyProof.Rows

/-! ### the text by places -/
/-- the j-th statement of a class's body -/
def inClass (s : Stmt) (j : Nat) : Stmt := match s with
  | .ClassDef _ _ _ body _ _ _ _ _ _ _ => body.getD j (.Pass ⟨0, 0, 0, 0⟩)
  | _ => .Pass ⟨0, 0, 0, 0⟩
def defArgs (s : Stmt) : Arguments := match s with
  | .FunctionDef _ a _ _ _ _ _ _ _ _ => a
  | _ => { posonlyargs := [], args := [], vararg := none, kwonlyargs := [], kw_defaults := [], kwarg := none, defaults := [] }
def defBody (s : Stmt) : List Stmt := match s with
  | .FunctionDef _ _ b _ _ _ _ _ _ _ => b
  | _ => []
def defScope (s : Stmt) : Scope := match s with
  | .FunctionDef _ _ _ _ _ _ sc _ _ _ => sc
  | _ => { kind := .function, names := [], isGenerator := false, isCoroutine := false }

/-! ### no exception leaves a def -/
abbrev CX0 : CXT := fun _ _ _ _ _ _ => False
abbrev E0 : XK := fun _ _ _ => False
theorem pass0 {X : Cx} : Passes CX0 X E0 := fun _ _ _ _ _ _ _ h => h.elim

/-! ### a def (or method) of the text as it stands behind the top -/
structure Fun (K : PySem.W.Frag) (x qual : Str) (st : Stmt) (f : Addr) (fd : FuncData) : Prop where
  ex : ∃ (oc : Value) (od : Option Addr) (kV doc pm : Value) (an : Option Addr) (cdv ct : Value) (osl : Array (Option Value)),
    fd = PySem.W.fnOf x qual (defArgs st) (defBody st) (defScope st) .none kV doc pm an cdv ct ∧ K.lookup f = some ⟨oc, od, .func fd, osl⟩ ∧ PySem.W.codeIn K cdv qual = true
  kp : PySem.W.keepIn K (.ref f) = true
section
variable {P : Program} {w : World} {K : PySem.W.Frag} {mg : Str → Option Value} {base : Heap}
/-- THE RULE for a def: its body as a term of rules, and the reading of that term -/
theorem Fun.ok {x qual : Str} {st : Stmt} {f : Addr} {fd : FuncData} {N ps : List Str} {k : Nat} {sp : Sp} (F : Fun K x qual st f fd) (S : FnScope N ps (defScope st)) (len : ∀ vs H Q E, sp vs H Q E → vs.length = ps.length)
    (hbody : ∀ (cdv : Value) (A : Around) (outer : List Env) (s : Shared) (H : Hp) (vs : List V) (Q : VK) (E : XK), Room k (A.deeper (envOfC qual (defScope st) s.heap.objs.size f cdv)) → sp vs H Q E →
      ∃ t, PSs (cxOf CX0 P w K mg base N qual (defScope st) f cdv A outer s H E).nox (defBody st) t ∧ t { nx := fun _ H' => Q .non H', rt := Q } (start N vs) H) : FnOk P w K mg base CX0 (k + 1) f fd ps sp := by
  obtain ⟨oc, od, kV, doc, pm, an, cdv, ct, osl, rfl, lk, hcd⟩ := F.ex
  refine fn_of lk hcd S len fun A outer s H vs Q E hr hsp => ?_
  obtain ⟨t, h, q⟩ := hbody cdv A outer s H vs Q E hr hsp
  exact ⟨t, h.nox, q⟩
/-- how its arguments bind (no defaults): h is «fun _ _ _ _ _ _ us hl => match us, hl with | [_, _], _ => rfl», one _ a parameter -/
theorem Fun.binds {x qual : Str} {st : Stmt} {f : Addr} {fd : FuncData} {ps : List Str} (F : Fun K x qual st f fd)
    (h : ∀ (kV doc pm : Value) (an : Option Addr) (cdv ct : Value) (us : List Value), us.length = ps.length → bindArgs (PySem.W.fnOf x qual (defArgs st) (defBody st) (defScope st) .none kV doc pm an cdv ct) ⟨us, []⟩ = pure (ps.zip us)) : Binds K fd ps [] := by
  obtain ⟨oc, od, kV, doc, pm, an, cdv, ct, osl, rfl, lk, hcd⟩ := F.ex
  exact .all (h kV doc pm an cdv ct)
theorem fun_mk {x qual : Str} {st : Stmt} {f : Addr} {oc : Value} {od an : Option Addr} {osl : Array (Option Value)} {kV doc pm cdv ct : Value} (l : K.lookup f = some ⟨oc, od, .func (PySem.W.fnOf x qual (defArgs st) (defBody st) (defScope st) .none kV doc pm an cdv ct), osl⟩)
    (c : PySem.W.codeIn K cdv qual = true) (k : PySem.W.keepIn K (.ref f) = true) : Fun K x qual st f (PySem.W.fnOf x qual (defArgs st) (defBody st) (defScope st) .none kV doc pm an cdv ct) := ⟨⟨oc, od, kV, doc, pm, an, cdv, ct, osl, rfl, l, c⟩, k⟩
end
/-! ### expressions in short: the name that stands in the i-th slot -/
section
variable {X : Cx}
theorem pv (i : Nat) {x : Str} {pos : Pos} (hN : X.N[i]? = some x := by rfl) (hv : Vis X.env.scope x := by first | exact Or.inl rfl | exact Or.inr (Or.inl rfl) | exact Or.inr (Or.inr rfl)) (hd : (x == ("__debug__" : Str)) = false := by decide)
    (hcd : (x == ("__classdict__" : Str)) = false := by decide) : PE X (.Name x pos) (tVar i) := pe_var hN hv hd hcd
end

/-! ### tests -/
theorem iteF {A B : Prop} (h : B) : if false = true then A else B := by
  rw [if_neg Bool.false_ne_true]
  exact h
theorem iteT {A B : Prop} (h : A) : if true = true then A else B := by
  rw [if_pos rfl]
  exact h
theorem ite2 {c A B : Prop} [Decidable c] (h1 : c → A) (h2 : ¬ c → B) : if c then A else B := by
  by_cases h : c
  · rw [if_pos h]
    exact h1 h
  · rw [if_neg h]
    exact h2 h
theorem iteNS {c A B : Prop} [Decidable c] (hc : c) (h : B) : if (!decide c) = true then A else B := by
  rw [decide_eq_true hc]
  exact iteF h

/-! ### heaps -/
/-- all that was tracked is as it was -/
def Same (H H' : Hp) : Prop := ∀ b o, H b = some o → H' b = some o
theorem Same.refl (H : Hp) : Same H H := fun _ _ h => h
theorem Same.trans {H H1 H2 : Hp} (a : Same H H1) (b : Same H1 H2) : Same H H2 := fun c o h => b c o (a c o h)
theorem Same.free {H H' : Hp} (e : Same H H') {l : Addr} (h : H' l = Option.none) : H l = Option.none := by
  cases q : H l with
  | none => rfl
  | some o =>
    rw [e l o q] at h
    cases h
theorem Same.seq {K : PySem.W.Frag} {H H' : Hp} {a : Addr} {xs : List V} (e : Same H H') (h : SqL K H a xs) : SqL K H' a xs := by
  rcases h with (h | ⟨o, h⟩) | h
  · exact .inl (.inl (e _ _ h))
  · exact .inl (.inr ⟨o, e _ _ h⟩)
  · exact .inr h

/-! ### a dict's pairs: keys that differ -/
section
variable {κ : Type} [DecidableEq κ]
end
end L2

set_option Elab.async false
set_option linter.all false
set_option maxRecDepth 100000
set_option maxHeartbeats 4000000
namespace L2
open PySem PySem.Spec PyProof.Rows

theorem natlt {a n : Addr} (h : a < n) : @LT.lt Nat _ a n := h
/-! ### a comprehension's block -/
/-- the cells that a block takes along -/
def clOf (env : Env) : List (Str × NameKind) → List (Str × Addr) → List (Str × Addr)
  | [], acc => acc
  | (n, k) :: r, acc => if k == .free then clOf env r ((n, (env.cells.lookup n).getD 0) :: acc) else clOf env r acc
theorem closure_eq {env : Env} {scope : Scope} (h : ∀ y ∈ scope.names, y.2 = .free → (env.cells.lookup y.1).isSome = true) : closureFor scope env = pure (clOf env scope.names []) := by
  have go : ∀ (ns : List (Str × NameKind)) (acc : List (Str × Addr)), (∀ y ∈ ns, y.2 = .free → (env.cells.lookup y.1).isSome = true) →
      (forIn ns acc (fun x cs => match x with | (name, kind) => if (kind == .free) = true then do let c ← cellOf env name; pure (ForInStep.yield ((name, c) :: cs)) else pure (ForInStep.yield cs)) : Sem (List (Str × Addr))) = pure (clOf env ns acc) := by
    intro ns
    induction ns with
    | nil => intro acc _; rfl
    | cons y r ih =>
      intro acc hy
      obtain ⟨n, k⟩ := y
      rw [List.forIn_cons]
      by_cases hk : k = .free
      · subst hk
        have hs := hy (n, .free) List.mem_cons_self rfl
        obtain ⟨c, hc⟩ := Option.isSome_iff_exists.mp hs
        have e : cellOf env n = pure c := by unfold cellOf; rw [hc]
        show _ = pure (clOf env r ((n, (env.cells.lookup n).getD 0) :: acc))
        rw [← ih _ fun y hm => hy y (List.mem_cons_of_mem _ hm)]
        simp only [beq_self_eq_true, if_true, e, pure_bind, hc, Option.getD_some]
      · have hb : (k == NameKind.free) = false := by simpa using hk
        have hc : clOf env ((n, k) :: r) acc = clOf env r acc := by
          show (if (k == NameKind.free) = true then _ else _) = _
          rw [if_neg (by rw [hb]; decide)]
        rw [hc, ← ih _ fun y hm => hy y (List.mem_cons_of_mem _ hm)]
        simp only [hb, Bool.false_eq_true, if_false, pure_bind]
  have q := go scope.names [] h
  unfold closureFor
  show (forIn scope.names [] _ >>= fun r => pure r) = _
  rw [bind_pure]
  exact q
theorem clOf_lookup {env : Env} : ∀ (ns : List (Str × NameKind)) (acc : List (Str × Addr)) (x : Str), (∀ y ∈ ns, y.2 = .free → (env.cells.lookup y.1).isSome = true) →
    (clOf env ns acc).lookup x = if (x, NameKind.free) ∈ ns then env.cells.lookup x else acc.lookup x
  | [], acc, x, _ => by simp [clOf]
  | (n, k) :: r, acc, x, h => by
    have hr : ∀ y ∈ r, y.2 = .free → (env.cells.lookup y.1).isSome = true := fun y hm => h y (List.mem_cons_of_mem _ hm)
    by_cases hk : k = .free
    · subst hk
      show (clOf env r ((n, (env.cells.lookup n).getD 0) :: acc)).lookup x = _
      rw [clOf_lookup r _ x hr]
      obtain ⟨c, hc⟩ := Option.isSome_iff_exists.mp (h (n, .free) List.mem_cons_self rfl)
      have hc : env.cells.lookup n = some c := hc
      by_cases hm : (x, NameKind.free) ∈ r
      · rw [if_pos hm, if_pos (List.mem_cons_of_mem _ hm)]
      · rw [if_neg hm]
        by_cases e : x = n
        · subst e
          rw [if_pos List.mem_cons_self, List.lookup_cons, hc]
          simp
        · rw [if_neg (fun z => (List.mem_cons.mp z).elim (fun q => e (congrArg Prod.fst q)) hm), List.lookup_cons]
          have : (x == n) = false := by simpa using e
          rw [this]
    · have hb : (k == NameKind.free) = false := by simpa using hk
      have hc : clOf env ((n, k) :: r) acc = clOf env r acc := by
        show (if (k == NameKind.free) = true then _ else _) = _
        rw [if_neg (by rw [hb]; decide)]
      rw [hc, clOf_lookup r acc x hr]
      have : ((x, NameKind.free) ∈ (n, k) :: r) ↔ (x, NameKind.free) ∈ r := by
        constructor
        · intro z
          rcases List.mem_cons.mp z with q | q
          · exact absurd (congrArg Prod.snd q).symm hk
          · exact q
        · exact List.mem_cons_of_mem _
      simp only [this]

theorem relabel_lookup (env : Env) : ∀ (ns : List (Str × NameKind)) (x : Str),
    (ns.map fun (n, k) => if (k == .free && env.scope.kind == .function && env.kindOf n == some .cell) then (n, NameKind.cell) else (n, k)).lookup x =
      (ns.lookup x).map fun k => if (k == .free && env.scope.kind == .function && env.kindOf x == some .cell) = true then NameKind.cell else k
  | [], x => rfl
  | (n, k) :: r, x => by
    show List.lookup x ((if (k == NameKind.free && env.scope.kind == .function && env.kindOf n == some .cell) = true then (n, NameKind.cell) else (n, k)) :: _) = _
    cases hx : x == n with
    | true =>
      have e : x = n := by simpa using hx
      subst e
      by_cases hc : (k == NameKind.free && env.scope.kind == .function && env.kindOf x == some .cell) = true
      · rw [if_pos hc]; simp only [List.lookup_cons, hx, Option.map_some, if_pos hc]
      · rw [if_neg hc]; simp only [List.lookup_cons, hx, Option.map_some, if_neg hc]
    | false =>
      have ih := relabel_lookup env r x
      by_cases hc : (k == NameKind.free && env.scope.kind == .function && env.kindOf n == some .cell) = true
      · rw [if_pos hc]; simp only [List.lookup_cons, hx]; exact ih
      · rw [if_neg hc]; simp only [List.lookup_cons, hx]; exact ih

/-- the block's names: its own first, then those that it takes along: the outer names at the places caps -/
structure CompScope (N own : List Str) (caps : List Nat) (XN : List Str) (outer scope : Scope) : Prop where
  kind : scope.kind = .function
  nocell : ∀ y ∈ scope.names, y.2 ≠ .cell
  names : ∀ y ∈ scope.names, y.2 = .local → scope.names.lookup y.1 = some .local
  free : ∀ y ∈ scope.names, y.2 = .free → outer.names.lookup y.1 = some .cell ∨ outer.names.lookup y.1 = some .free
  nd : N.Nodup
  len : N.length = own.length + caps.length
  cap : ∀ (j : Nat), j < caps.length → N[own.length + j]? = XN[caps.getD j 0]? ∧ ∃ x, N[own.length + j]? = some x ∧ (x, NameKind.free) ∈ scope.names ∧ scope.names.lookup x = some .free

def st0 (own : List Str) (caps : List Nat) (σ : St) : St := own.map (fun _ => none) ++ caps.map (fun i => (σ[i]?).join)

def cxComp (X : Cx) (scope : Scope) (C : Addr) (N : List Str) (s : Shared) (H : Hp) (fp : List Addr) : Cx :=
  { X with N := N, s₀ := s, H₀ := H, env := compEnvC scope (clOf X.env scope.names []) C X.env, outer := X.stack, ex := fp, fn := fun _ => false, pn := [], xe := fun _ _ => False }

section
variable {X : Cx} {pins : List (Addr × Obj)} {σ : St} {H : Hp} {s : Shared} {scope : Scope} {N own : List Str} {caps : List Nat} {fp : List Addr} {C : Nat}
theorem CompScope.csome (S : CompScope N own caps X.N X.env.scope scope) (ok : X.Ok) : ∀ y ∈ scope.names, y.2 = .free → (X.env.cells.lookup y.1).isSome = true := fun y hy hf => by
  obtain ⟨c, e⟩ := ok.has y.1 (S.free y hy hf)
  rw [e]; rfl
theorem CompScope.csub (S : CompScope N own caps X.N X.env.scope scope) (ok : X.Ok) {x : Str} {c : Addr} (h : (clOf X.env scope.names []).lookup x = some c) : X.env.cells.lookup x = some c := by
  rw [clOf_lookup _ _ _ (S.csome ok)] at h
  split at h
  · exact h
  · simp at h
theorem CompScope.lookFree {S : CompScope N own caps X.N X.env.scope scope} {x : Str} (h : (relabel scope X.env).names.lookup x = some .cell ∨ (relabel scope X.env).names.lookup x = some .free) : (x, NameKind.free) ∈ scope.names := by
  have e := relabel_lookup X.env scope.names x
  have e' : (relabel scope X.env).names.lookup x = (scope.names.lookup x).map fun k => if (k == .free && X.env.scope.kind == .function && X.env.kindOf x == some .cell) = true then NameKind.cell else k := e
  rw [e'] at h
  cases q : scope.names.lookup x with
  | none => rw [q] at h; simp at h
  | some k =>
    have hm := PySem.mem_of_lookup q
    by_cases hk : k = .free
    · subst hk; exact hm
    · rw [q] at h
      have hb : (k == NameKind.free) = false := by simpa using hk
      simp only [Option.map_some, hb, Bool.false_and, Bool.false_eq_true, if_false] at h
      rcases h with h | h
      · exact absurd (Option.some.inj h) (S.nocell _ hm)
      · exact absurd (Option.some.inj h) hk

/-- the block's context is in order, and its names stand -/
theorem Inv.comp {h1 : Heap} {D : Nat} (I : Inv X pins σ H s) (S : CompScope N own caps X.N X.env.scope scope) (hfp : ∀ b ∈ fp, FpOk X pins H b) (hfo : ∀ b ∈ fp, ∃ o, s.heap.get? b = some o)
    (hD : D = s.heap.objs.size) (hC : C = s.heap.objs.size + 1) (old : ∀ b o, s.heap.get? b = some o → h1.get? b = some o) (hns : h1.Ns C (fun _ => none)) (hl : h1.get? D = some { cls := .type "list", data := .seq #[] }) {t : Nat} :
    Inv (cxComp X scope C N s H fp) [] (st0 own caps σ) (upd H D (.lst [])) { s with heap := h1, toks := t } := by
  have some' := S.csome I.ok
  have sub : ∀ {x c}, (clOf X.env scope.names []).lookup x = some c → X.env.cells.lookup x = some c := fun h => S.csub I.ok h
  have freshD : H D = none := I.hok.fresh (by rw [hD]; exact Nat.le_refl _)
  have freshC : H C = none := I.hok.fresh (by rw [hC]; exact Nat.le_succ _)
  have cellLt : ∀ x c, X.env.cells.lookup x = some c → c < s.heap.objs.size := fun x c e => by
    obtain ⟨v, z⟩ := I.cell x c e
    exact z.lt
  have fpLt : ∀ b ∈ fp, b < s.heap.objs.size := fun b hb => by
    obtain ⟨o, e⟩ := hfo b hb
    exact Heap.lt_size e
  have DC : D ≠ C := by omega
  refine ⟨⟨I.ok.mod, S.kind, I.ok.glob, I.ok.blt, by show s.heap.objs.size ≤ C; omega, fun x y c e1 e2 => I.ok.inj x y c (sub e1) (sub e2), fun x h => ?_, fun x c h => (by cases h), I.ok.hd, I.ok.frames, Or.inl rfl, fun b hb => ⟨?_, fun x c e => ?_⟩, I.bs, Nat.le_trans I.ok.bsz I.sz, fun b o e hb => ?_, fun b hb z => ?_, I.stack, I.stkFree⟩,
    rfl, I.bare, Un.laid old (by show s.heap.objs.size ≤ D; omega) freshD, ⟨_, hns, fun j x v e1 e2 e3 => ?_⟩, fun x c e => ?_, ?_, fun x c e => ?_, fun p hp => ?_, I.hok.laid old (by omega) ?_, ?_⟩
  · have hm := CompScope.lookFree (S := S) (X := X) h
    obtain ⟨c, e⟩ := Option.isSome_iff_exists.mp (some' _ hm rfl)
    exact ⟨c, by show (clOf X.env scope.names []).lookup x = _; rw [clOf_lookup _ _ _ some', if_pos hm]; exact e⟩
  · exact Nat.ne_of_lt (show @LT.lt Nat _ b C by have := natlt (fpLt b hb); omega)
  · exact (hfp b hb).2.2.2.2.1 x c (sub e)
  · rcases (hfp b hb).2.2.2.1 with z | z
    · exact I.ok.noex b o e z
    · exact absurd (Nat.lt_of_lt_of_le (Heap.lt_size e) (Nat.le_trans I.ok.bsz z)) (Nat.lt_irrefl _)
  · rcases List.mem_cons.mp (I.stkSub b z) with q | q
    · exact (hfp b hb).2.1 q
    · exact (hfp b hb).2.2.1 q
  · have e1 : N[j]? = some x := e1
    have hj : own.length ≤ j := by
      by_cases q : own.length ≤ j
      · exact q
      · exfalso
        unfold st0 at e2
        rw [List.getElem?_append_left (by simp; omega), List.getElem?_map] at e2
        cases r : own[j]? with
        | none => rw [r] at e2; cases e2
        | some a => rw [r] at e2; cases e2
    have hjl : j < N.length := (List.getElem?_eq_some_iff.mp e1).1
    have hjc : j - own.length < caps.length := by have := S.len; omega
    obtain ⟨c1, x', c2, c3, c4⟩ := S.cap (j - own.length) hjc
    rw [show own.length + (j - own.length) = j by omega] at c1 c2
    rw [e1] at c2
    cases c2
    have e2' : (σ[caps.getD (j - own.length) 0]?).join = some v := by
      unfold st0 at e2
      rw [List.getElem?_append_right (by simp; omega), List.getElem?_map, List.length_map] at e2
      rw [List.getD_eq_getElem?_getD]
      cases r : caps[j - own.length]? with
      | none => rw [r] at e2; cases e2
      | some a => rw [r] at e2; exact Option.some.inj e2
    have e2'' : σ[caps.getD (j - own.length) 0]? = some (some v) := by
      cases r : σ[caps.getD (j - own.length) 0]? with
      | none => rw [r] at e2'; cases e2'
      | some a => rw [r] at e2'; exact congrArg Option.some e2'
    have kx : X.env.kindOf x = some .cell ∨ X.env.kindOf x = some .free := S.free _ c3 rfl
    obtain ⟨m, hn, hl'⟩ := I.loc
    obtain ⟨u, r, l⟩ := hl' _ x v (by rw [← c1]; exact e1) e2'' (by rcases kx with z | z; exact .inr (.inl z); exact .inr (.inr z))
    refine ⟨u, r, .inr ⟨?_, ?_⟩⟩
    · show (relabel scope X.env).names.lookup x = some .cell ∨ (relabel scope X.env).names.lookup x = some .free
      have e : (relabel scope X.env).names.lookup x = (scope.names.lookup x).map fun k => if (k == .free && X.env.scope.kind == .function && X.env.kindOf x == some .cell) = true then NameKind.cell else k := relabel_lookup X.env scope.names x
      rw [e, c4, Option.map_some]
      split
      · exact .inl rfl
      · exact .inr rfl
    · rcases l with ⟨hk, _⟩ | ⟨_, c, hc, z⟩
      · rcases kx with q | q <;> rw [hk] at q <;> cases q
      · refine ⟨c, ?_, ?_⟩
        · show (clOf X.env scope.names []).lookup x = _
          rw [clOf_lookup _ _ _ some', if_pos c3]; exact hc
        · obtain ⟨o, ho, hd⟩ := z
          exact ⟨o, old c o ho, hd⟩
  · obtain ⟨v, o, ho, hd⟩ := I.cell x c (sub e)
    exact ⟨v, o, old c o ho, hd⟩
  · show upd H D (.lst []) C = none
    rw [upd_ne DC.symm]; exact freshC
  · show upd H D (.lst []) c = none
    rw [upd_ne (Nat.ne_of_lt (by have := natlt (cellLt x c (sub e)); omega))]; exact I.freeC x c (sub e)
  · cases hp
  · exact ⟨Nat.zero_le _, [], 0, .nil, hl⟩
  · show (own.map (fun _ => none) ++ caps.map _).length = N.length
    rw [List.length_append, List.length_map, List.length_map, S.len]

/-- behind the block -/
theorem Inv.uncomp {pins' : List (Addr × Obj)} {σ' : St} {H' : Hp} {s' : Shared} {h' : Heap} (I : Inv X pins σ H s) (hfp : ∀ b ∈ fp, FpOk X pins H b) (hC : s.heap.objs.size ≤ C) (J : Inv (cxComp X scope C N s H fp) pins' σ' H' s') (hs : Heap.SameBut C s'.heap h') :
    Inv X pins σ H' { s' with heap := h' } := by
  have nC : ∀ b o, s.heap.get? b = some o → b ≠ C := fun b o e => Nat.ne_of_lt (by have := natlt (Heap.lt_size e); omega)
  have u := J.base
  have frC : H' C = none := J.free
  refine I.call' (ch := fp) (s' := { s' with heap := h' }) J.os ⟨fun b o e n hb hx => ?_, fun b o e n hb hx => ?_, u.free, fun b o e hx => ?_, u.tups, u.frzs, u.tbls⟩ (fun a o e => (J.hok a o e).stay (fun b v hb q => ?_) (fun _ q => q) fun _ _ q => q) J.bare fun b hb => ?_
  · exact (hs.2 b (nC b o e)).trans (u.keep b o e n hb hx)
  · obtain ⟨sl, q⟩ := u.slot b o e n hb hx
    exact ⟨sl, (hs.2 b (nC b o e)).trans q⟩
  · obtain ⟨o', q⟩ := u.there b o e hx
    exact ⟨o', (hs.2 b (nC b o e)).trans q⟩
  · refine (hs.2 b ?_).trans q
    intro z
    subst z
    rcases hb with z | z
    · subst z; rw [frC] at e; cases e
    · rw [frC] at z; cases z
  · exact ⟨(hfp b hb).2.2.2.1, (hfp b hb).2.1, (hfp b hb).2.2.2.2.1, (hfp b hb).2.2.2.2.2⟩
end

section
variable {prog : Program} {w : World} {A : Around} {R : Result → Shared → Prop} {s : Shared}
theorem compLoop_any {elt target iter : Expr} {ifs : List Expr} {scope : Scope} {pos : Pos} {it acc : Value} {env : Env} (I : Nat → Shared → Prop)
    (turn : ∀ n s, I n s → wpAny (model prog w) A (pyNext it) (fun r s1 => match r with
      | none => R (.ok .next) s1
      | some v => wpAny (model prog w) A (letOwnedTupleGo target it v) (fun _ s1' => wpAny (model prog w) A (assign target env v) (fun _ s2 =>
          wpAny (model prog w) A (forIn ifs true fun c r => if r = true then do let ok ← isTrue c env (eval c env); pure (ForInStep.yield ok) else pure (ForInStep.yield r)) (fun ok s3 =>
            if ok = true then wpAny (model prog w) A (eval elt env) (fun x s4 =>
              wpAny (model prog w) A (call (.builtin "list.append") [acc, x]) (fun _ s5 => ∃ m, m < n ∧ I m s5) (fun _ _ => False) s4) (fun _ _ => False) s3
            else ∃ m, m < n ∧ I m s3) (fun _ _ => False) s2) (fun _ _ => False) s1') (fun _ _ => False) s1) (fun _ _ => False) s)
    (n : Nat) (h : I n s) :
    codeAny (model prog w) A (.compLoop (.ListComp elt [⟨target, iter, ifs, 0⟩] scope pos) 0 it acc env) R s := by
  refine codeAny_loop rfl I (fun n s hI => ?_) n h
  show wpAny _ A ((compTurn (.ListComp elt [⟨target, iter, ifs, 0⟩] scope pos) 0 it acc env).onRaise (fun x => do noteFrame x env; theTreesLotGoes x)) _ _ s
  refine wpAny_noted ?_
  rw [compTurn_list]
  refine wpAny_bind (wpAny_standAt (wpAny_bind (wpAny_mono (turn n s hI) (fun r s1 h1 => ?_) fun _ _ h' => h'.elim)))
  cases r with
  | none => exact wpAny_pure h1
  | some v =>
    refine wpAny_bind (wpAny_mono h1 (fun _ s1' h1' => ?_) fun _ _ h' => h'.elim)
    refine wpAny_bind (wpAny_mono h1' (fun _ s2 h2 => wpAny_bind (wpAny_mono h2 (fun ok s3 h3 => ?_) fun _ _ h' => h'.elim)) fun _ _ h' => h'.elim)
    cases ok with
    | false => exact wpAny_pure ⟨rfl, h3⟩
    | true =>
      exact wpAny_bind (wpAny_bind (wpAny_mono h3 (fun x s4 h4 => wpAny_bind (wpAny_mono h4 (fun _ s5 h5 => wpAny_pure (wpAny_pure ⟨rfl, h5⟩)) fun _ _ h' => h'.elim)) fun _ _ h' => h'.elim))
end

/-- the tests of a comprehension -/
def PTs (X : Cx) (ifs : List Expr) (t : TT) : Prop :=
  ∀ (pins : List (Addr × Obj)) (s : Shared) (σ : St) (H : Hp) (Q : Bool → Hp → Prop), Inv X pins σ H s → t σ H Q →
    wpAny (model X.prog X.w) X.A (forIn ifs true fun c r => if r = true then do let ok ← isTrue c X.env (eval c X.env); pure (ForInStep.yield ok) else pure (ForInStep.yield r)) (TP X pins σ Q) X.xe s
def tAll : TT := fun _ H Q => Q true H
theorem pts_nil {X : Cx} : PTs X [] tAll := fun _ _ _ H _ I h => wpAny_tests_nil ⟨H, I, h⟩
theorem pts_one {X : Cx} {c : Expr} {t : TT} (h : PT X c t) : PTs X [c] t := fun pins s σ H Q I q => wpAny_tests_one (h pins s σ H Q I q)

/-- [e for target in iter if c]: W between two turns; the list grows at D; N: what the turn is to reach -/
def CompW (J : It) (g : TG) (tc : TT) (te : TE) (Q : VK) (D : Addr) (σ0 : St) (H1 : Hp) : Prop :=
  ∃ W : Nat → Nat → St → Hp → Prop, (∃ m, W 0 m σ0 (upd H1 D (.lst []))) ∧ ∀ i m σ H, W i m σ H →
    (J.stop i H ∧ Q (.ref D) H) ∨ (J.go i H ∧ ∃ N : St → Hp → Prop, (∀ σ' H', N σ' H' → ∃ m', m' < m ∧ W (i + 1) m' σ' H') ∧ ∀ x H', J.yld i H x H' → g x σ H' fun σ2 H2 => tc σ2 H2 fun b H3 =>
      if b = true then te σ2 H3 fun y H4 => ∃ acc, H4 D = some (.lst acc) ∧ acc.length < sizeLine ∧ N σ2 (upd H4 D (.lst (acc ++ [y]))) else N σ2 H3)
def tComp (own : List Str) (caps : List Nat) (wi : TI) (g : TG) (tc : TT) (te : TE) : TE := fun σ H Q => wi σ H fun J H1 => ∀ D, H1 D = none → CompW J g tc te Q D (st0 own caps σ) H1

section
variable {X : Cx} {elt tg iter : Expr} {ifs : List Expr} {scope : Scope} {pos : Pos} {N own : List Str} {caps : List Nat} {wi : TI} {g : TG} {tc : TT} {te : TE}
/-- the block run: from the iterator to the list -/
theorem comp_run {use : Option (Value → Sem Unit)} {Qv : Value → Shared → Prop} {pins : List (Addr × Obj)} {σ : St} {H : Hp} {s : Shared} {Q : VK} (hc : X.calm = true) (S : CompScope N own caps X.N X.env.scope scope)
    (hg : ∀ C s H fp, PG (cxComp X scope C N s H fp) tg g) (hcs : ∀ C s H fp, PTs (cxComp X scope C N s H fp) ifs tc) (he : ∀ C s H fp, PE (cxComp X scope C N s H fp) elt te)
    (hi : PI X tg iter wi) (hs : ∀ x, foldedSetIterable iter X.env x = pure x)
    (I : Inv X pins σ H s) (h : tComp own caps wi g tc te σ H Q)
    (fin : ∀ (D C : Addr) (H' : Hp) (s' : Shared), (∃ m, s'.heap.Ns C m) → Inv X pins σ H' s' → (∀ h', Heap.SameBut C s'.heap h' → Inv X pins σ H' { s' with heap := h' }) → FpOk X pins H' C → Q (.ref D) H' →
      compPost (model X.prog X.w) X.A X.xe use Qv (.ref D) C (.ok .next) s') :
    wpAny (model X.prog X.w) X.A (comprehension (.ListComp elt [⟨tg, iter, ifs, 0⟩] scope pos) scope X.env (firstIterPos [⟨tg, iter, ifs, 0⟩] pos) (newList []) false (eval iter X.env) use) Qv X.xe s := by
  refine wpAny_comprehension_free (use := use) rfl hs (closure_eq (S.csome I.ok)) S.kind S.names (thn (hi pins s σ H _ I h) fun xv s1 h1 => thn h1 fun itv s2 h2 => ?_)
  obtain ⟨it, fp, tn, J, H2, e, I2, T, st2, f2, q2⟩ := h2
  subst e
  refine wpAny_newList ?_
  refine wpAny_newFunctionEnv S.nocell (by intro y hy; simp at hy) (fun h1 hns1 hsb1 => ?_) S.kind
  dsimp only at hns1 hsb1 ⊢
  have hD : H2 s2.heap.objs.size = none := I2.hok.fresh (Nat.le_refl _)
  have hsz : (s2.heap.push { cls := .type "list", data := .seq ([] : List Value).toArray }).objs.size = s2.heap.objs.size + 1 := Heap.size_push ..
  have old : ∀ b o, s2.heap.get? b = some o → h1.get? b = some o := fun b o e => by
    refine hsb1.extBut b o (Nat.ne_of_lt (by have := natlt (Heap.lt_size e); rw [hsz]; omega)) (Heap.get?_push_of_some _ (Heap.get?_push_of_some _ e))
  have hl : h1.get? s2.heap.objs.size = some { cls := .type "list", data := .seq #[] } :=
    hsb1.extBut _ _ (Nat.ne_of_lt (by rw [hsz]; omega)) (Heap.get?_push_of_some _ (Heap.get?_push_size _ rfl))
  have hfo : ∀ b ∈ fp, ∃ o, s2.heap.get? b = some o := fun b hb => let ⟨o, e, _⟩ := T.obj _ _ st2 b hb; ⟨o, e⟩
  have I4 := Inv.comp (C := (s2.heap.push { cls := .type "list", data := .seq ([] : List Value).toArray }).objs.size) (t := s2.toks + ([] : List (Str × Value)).length) I2 S f2 hfo rfl hsz old hns1 hl
  obtain ⟨W, ⟨m0, w0⟩, turn⟩ := q2 _ hD
  generalize hCe : (s2.heap.push { cls := .type "list", data := .seq ([] : List Value).toArray }).objs.size = C at *
  generalize hDe : s2.heap.objs.size = D at *
  have hDC : D ≠ C := by omega
  -- the loop
  have loop : ∀ s3 : Shared, s3 = { s2 with heap := h1, toks := s2.toks + ([] : List (Str × Value)).length } →
      codeAny (model X.prog X.w) X.A (.compLoop (.ListComp elt [⟨tg, iter, ifs, 0⟩] scope pos) 0 (.ref it) (.ref D) (cxComp X scope C N s2 H2 fp).env) (compPost (model X.prog X.w) X.A X.xe use Qv (.ref D) C) s3 := by
    rintro s3 rfl
    have frz : ∀ b ∈ fp, (upd H2 D (.lst [])) b = none := fun b hb => by
      obtain ⟨o, e⟩ := hfo b hb
      rw [upd_ne (Nat.ne_of_lt (by have := natlt (Heap.lt_size e); omega))]
      exact (f2 b hb).1
    have stat : ∀ {H' : Hp}, (∀ b ∈ fp, H' b = none) → ∀ b ∈ fp, FpOk (cxComp X scope C N s2 H2 fp) [] H' b := fun hn b hb => by
      obtain ⟨o, e⟩ := hfo b hb
      have hlt := natlt (Heap.lt_size e)
      refine ⟨hn b hb, ?_, fun z => ?_, .inl hb, fun x c e' => (f2 b hb).2.2.2.2.1 x c (S.csub I2.ok e'), fun p hp => (by cases hp)⟩
      · exact Nat.ne_of_lt (show @LT.lt Nat _ b C by omega)
      · rcases List.mem_cons.mp (I2.stkSub b z) with q | q
        · exact (f2 b hb).2.1 q
        · exact (f2 b hb).2.2.1 q
    refine compLoop_any (fun n s' => ∃ i σ' H', Inv (cxComp X scope C N s2 H2 fp) [] σ' H' s' ∧ tn i s'.heap ∧ (∀ b ∈ fp, H' b = none) ∧ W i n σ' H') ?_ m0
      ⟨0, _, _, I4, T.keep _ _ _ st2 fun b _ o e => old b o e, frz, w0⟩
    rintro n s3 ⟨i, σ3, H3, I3, st3, fr3, w3⟩
    rcases turn i n σ3 H3 w3 with ⟨stop, qn⟩ | ⟨go, Nx, hNx, step⟩
    · refine thn (T.done (cxComp X scope C N s2 H2 fp) rfl rfl rfl hc i [] s3 σ3 H3 _ I3 (stat fr3) st3 stop) fun r s4 ⟨hr, J4⟩ => ?_
      subst hr
      obtain ⟨m4, hn4, _⟩ := J4.loc
      exact fin D C H3 s4 ⟨m4, hn4⟩ (I2.uncomp f2 (by omega) J4 (Heap.SameBut.refl _ _)) (fun h' hs' => I2.uncomp f2 (by omega) J4 hs') (I2.fpOk (show s2.heap.objs.size ≤ C by omega) J4.free) qn
    · refine thn (T.item (cxComp X scope C N s2 H2 fp) rfl rfl rfl hc i [] s3 σ3 H3 _ I3 (stat fr3) st3 go) fun r s4 ⟨u, hr, h4⟩ => ?_
      subst hr
      refine thn h4 fun _ s5 ⟨x, H5, I5, r5, y5, st5, fr5⟩ => ?_
      have I5' := I5.pinned (stat fr5) (T.obj _ _ st5)
      refine thn (hg C s2 H2 fp _ s5 σ3 H5 x u _ I5' r5 (step x H5 y5)) fun _ s6 ⟨σ6, H6, I6, q6⟩ => ?_
      refine thn (hcs C s2 H2 fp _ s6 σ6 H6 _ I6 q6) fun ok s7 ⟨H7, I7, q7⟩ => ?_
      have again : ∀ {σ8 : St} {H8 : Hp} {s8 : Shared}, Inv (cxComp X scope C N s2 H2 fp) ([] ++ pinsAt fp s5.heap) σ8 H8 s8 → Nx σ8 H8 → ∃ m, m < n ∧ ∃ i σ' H', Inv (cxComp X scope C N s2 H2 fp) [] σ' H' s8 ∧ tn i s8.heap ∧ (∀ b ∈ fp, H' b = none) ∧ W i m σ' H' := fun {σ8 H8 s8} I8 n8 => by
        obtain ⟨m', hm, w8⟩ := hNx _ _ n8
        refine ⟨m', hm, i + 1, σ8, H8, I8.unpinned, T.keep _ _ _ st5 fun b hb o e => (I8.pin (b, o) (List.mem_append_right _ (List.mem_append_right _ (mem_pinsAt hb e)))).1, fun b hb => ?_, w8⟩
        obtain ⟨o, e, d⟩ := T.obj _ _ st5 b hb
        exact (I8.pin (b, o) (List.mem_append_right _ (List.mem_append_right _ (mem_pinsAt hb e)))).2.1
      cases ok with
      | false =>
        rw [if_neg (by decide)] at q7
        exact again I7 q7
      | true =>
        rw [if_pos rfl] at q7
        refine thn (he C s2 H2 fp _ s7 σ6 H7 _ I7 q7) fun y s8 ⟨yv, H8, I8, r8, acc, ha, hlen, q8⟩ => ?_
        exact thn (mt_append _ s8 σ6 H8 (.ref D) [yv] (.ref D) [y] (fun v H9 => Nx σ6 H9) I8 rfl (.cons r8 .nil) ⟨D, acc, yv, rfl, rfl, ha, hlen, q8⟩) fun _ s9 ⟨_, H9, I9, _, q9⟩ => again I9 q9
  exact codeAny_compStart_list (loop _ rfl) (T.self _ 0 _ _ _ (T.keep _ _ _ st2 fun b _ o e => old b o e) (loop _ rfl))

theorem pe_comp (hc : X.calm = true) (S : CompScope N own caps X.N X.env.scope scope) (hi : PI X tg iter wi)
    (hg : ∀ C s H fp, PG (cxComp X scope C N s H fp) tg g) (hcs : ∀ C s H fp, PTs (cxComp X scope C N s H fp) ifs tc) (he : ∀ C s H fp, PE (cxComp X scope C N s H fp) elt te)
    (hs : ∀ x, foldedSetIterable iter X.env x = pure x := by intro _; rfl) : PE X (.ListComp elt [⟨tg, iter, ifs, 0⟩] scope pos) (tComp own caps wi g tc te) := by
  intro pins s σ H Q I h
  rw [eval_ListComp]
  refine comp_run (use := none) hc S hg hcs he hi hs I h ?_
  intro D C H' s' hn I' hk _ q
  obtain ⟨m, hn⟩ := hn
  exact ⟨m, hn, fun h' hs' => ⟨.ref D, H', hk h' hs', rfl, q⟩⟩
/-- x = [e for ..] on one row: the name is stored ahead of the block's names being let go -/
theorem ps_setC {i : Nat} {x : Str} {px sp : Pos} (hc : X.calm = true) (hN : X.N.Nodup) (hx : X.N[i]? = some x) (hl : Loc X.env.scope x) (S : CompScope N own caps X.N X.env.scope scope) (hi : PI X tg iter wi)
    (hg : ∀ C s H fp, PG (cxComp X scope C N s H fp) tg g) (hcs : ∀ C s H fp, PTs (cxComp X scope C N s H fp) ifs tc) (he : ∀ C s H fp, PE (cxComp X scope C N s H fp) elt te)
    (hsw : swapsWith (.ListComp elt [⟨tg, iter, ifs, 0⟩] scope pos) (some (.Name x px)) sp.line X.env = pure true := by rfl)
    (hs : ∀ x, foldedSetIterable iter X.env x = pure x := by intro _; rfl) (hf : X.fn x = true ∨ X.env.scope.names.lookup x = some .local := by first | exact .inl rfl | exact .inr rfl | assumption) :
    PS X (.Assign [.Name x px] (.ListComp elt [⟨tg, iter, ifs, 0⟩] scope pos) sp) (tAsg (tComp own caps wi g tc te) (gName i)) := by
  intro pins s σ H D I h
  rw [exec_Assign_Name_used _ _ _ _ hsw]
  refine wpAny_bind (wpAny_standAt (wpAny_bind ?_))
  show wpAny _ X.A (do let _ ← comprehension (.ListComp elt [⟨tg, iter, ifs, 0⟩] scope pos) scope X.env (firstIterPos [⟨tg, iter, ifs, 0⟩] pos) (newList []) false (eval iter X.env) (some (assign (.Name x px) X.env))) _ _ s
  refine wpAny_bind (wpAny_mono (comp_run (use := some (assign (.Name x px) X.env)) (Qv := fun _ s' => SP X pins D .next s') hc S hg hcs he hi hs I h ?_) (fun _ s' hq => wpAny_pure (wpAny_pure hq)) fun _ _ e => e)
  intro E C H' s' hn I' hk fC q
  obtain ⟨m, hn⟩ := hn
  obtain ⟨f0, f1, f2, f3, f4, f5⟩ := fC
  show wpAny _ X.A (assign (.Name x px) X.env (.ref E)) _ _ _
  refine wpAny_assign_Name (store_ok2 I' hN hx hl (v := .ref E) rfl (fun s2 I2 k => ?_) hf)
  refine ⟨m, ?_, fun h' hs' => ?_⟩
  · obtain ⟨o, es, ep, ho, r⟩ := hn
    obtain ⟨a, ks, ka⟩ := k
    have hCa : C ≠ a := fun z => by
      rcases ka with q' | q'
      · exact f1 (z.trans q')
      · exact f4 x a q' z.symm
    exact ⟨o, es, ep, (ks.2 C hCa).trans ho, r⟩
  · exact ⟨_, H', I2.turned (t' := s2.toks) (fun b o hb e => (hs'.2 b hb).trans e) f0 f1 f3 f4 f5, q⟩
end
/-- the names of a block, checked -/
def compOk (N own : List Str) (caps : List Nat) (XN : List Str) (outer scope : Scope) : Bool :=
  decide (scope.kind = .function) && scope.names.all (fun y => decide (y.2 ≠ .cell)) && scope.names.all (fun y => decide (y.2 ≠ .local) || decide (scope.names.lookup y.1 = some .local)) &&
  scope.names.all (fun y => decide (y.2 ≠ .free) || decide (outer.names.lookup y.1 = some .cell) || decide (outer.names.lookup y.1 = some .free)) && decide N.Nodup && decide (N.length = own.length + caps.length) &&
  (List.range caps.length).all (fun j => match N[own.length + j]? with | some x => decide (XN[caps.getD j 0]? = some x) && decide ((x, NameKind.free) ∈ scope.names) && decide (scope.names.lookup x = some .free) | none => false)
theorem CompScope.of {N own : List Str} {caps : List Nat} {XN : List Str} {outer scope : Scope} (h : compOk N own caps XN outer scope = true) : CompScope N own caps XN outer scope := by
  unfold compOk at h
  simp only [Bool.and_eq_true, decide_eq_true_eq, List.all_eq_true, Bool.or_eq_true] at h
  obtain ⟨⟨⟨⟨⟨⟨h1, h2⟩, h3⟩, h4⟩, h5⟩, h6⟩, h7⟩ := h
  refine ⟨h1, h2, fun y hy e => ?_, fun y hy e => ?_, h5, h6, fun j hj => ?_⟩
  · rcases h3 y hy with z | z
    · exact absurd e z
    · exact z
  · rcases h4 y hy with (z | z) | z
    · exact absurd e z
    · exact .inl z
    · exact .inr z
  · have q := h7 j (List.mem_range.mpr hj)
    cases e : N[own.length + j]? with
    | none => rw [e] at q; cases q
    | some x =>
      rw [e] at q
      simp only [Bool.and_eq_true, decide_eq_true_eq] at q
      exact ⟨q.1.1.symm, x, rfl, q.1.2, q.2⟩
end L2
set_option Elab.async false
set_option linter.all false
set_option maxRecDepth 100000
set_option maxHeartbeats 4000000
namespace L2
open PySem PySem.Spec PyProof.Rows

/-! ### plain data at a heap -/
mutual
def Dat (H : Hp) : V → PyData → Prop
  | v, .none => v = .non
  | v, .bool b => v = .bl b
  | v, .int i => v = .int i
  | v, .str x => v = .str x
  | v, .list ds => ∃ a vs, v = .ref a ∧ H a = some (.lst vs) ∧ Dats H vs ds
  | v, .tuple ds => ∃ a vs, v = .ref a ∧ H a = some (.tup vs) ∧ Dats H vs ds
  | _, .dict _ => False
def Dats (H : Hp) : List V → List PyData → Prop
  | [], [] => True
  | v :: vs, d :: ds => Dat H v d ∧ Dats H vs ds
  | [], _ :: _ => False
  | _ :: _, [] => False
end
section
variable {H H' : Hp}
theorem Dats.length : ∀ {vs : List V} {ds : List PyData}, Dats H vs ds → vs.length = ds.length
  | [], [], _ => rfl
  | _ :: _, _ :: _, h => by simp only [Dats] at h; simp [Dats.length h.2]
  | [], _ :: _, h => by simp only [Dats] at h
  | _ :: _, [], h => by simp only [Dats] at h
theorem Dats.get : ∀ {vs : List V} {ds : List PyData} {i : Nat} {v : V}, Dats H vs ds → vs[i]? = some v → ∃ d, ds[i]? = some d ∧ Dat H v d
  | _ :: _, _ :: _, 0, _, h, e => by simp only [Dats] at h; simp at e; subst e; exact ⟨_, rfl, h.1⟩
  | _ :: _, _ :: _, i + 1, _, h, e => by simp only [Dats] at h; simp at e; obtain ⟨d, q, r⟩ := Dats.get h.2 e; exact ⟨d, by simpa using q, r⟩
  | [], [], _, _, _, e => by simp at e
  | [], _ :: _, _, _, h, _ => by simp only [Dats] at h
  | _ :: _, [], _, _, h, _ => by simp only [Dats] at h
theorem Dats.getD : ∀ {vs : List V} {ds : List PyData} {i : Nat} {d : PyData}, Dats H vs ds → ds[i]? = some d → ∃ v, vs[i]? = some v ∧ Dat H v d
  | _ :: _, _ :: _, 0, _, h, e => by simp only [Dats] at h; simp at e; subst e; exact ⟨_, rfl, h.1⟩
  | _ :: _, _ :: _, i + 1, _, h, e => by simp only [Dats] at h; simp at e; obtain ⟨d, q, r⟩ := Dats.getD h.2 e; exact ⟨d, by simpa using q, r⟩
  | [], [], _, _, _, e => by simp at e
  | [], _ :: _, _, _, h, _ => by simp only [Dats] at h
  | _ :: _, [], _, _, h, _ => by simp only [Dats] at h
theorem Dats.append : ∀ {vs ws : List V} {ds es : List PyData}, Dats H vs ds → Dats H ws es → Dats H (vs ++ ws) (ds ++ es)
  | [], _, [], _, _, g => g
  | _ :: _, _, _ :: _, _, h, g => by simp only [Dats, List.cons_append] at h ⊢; exact ⟨h.1, Dats.append h.2 g⟩
  | [], _, _ :: _, _, h, _ => by simp only [Dats] at h
  | _ :: _, _, [], _, h, _ => by simp only [Dats] at h
theorem Dats.ints (ns : List Int) : Dats H (ns.map V.int) (ns.map PyData.int) := by
  induction ns with
  | nil => simp only [List.map_nil, Dats]
  | cons n r ih => simp only [List.map_cons, Dats, Dat]; exact ⟨trivial, ih⟩
mutual
theorem Dat.mono (hl : ∀ a xs, H a = some (HO.lst xs) → H' a = some (HO.lst xs)) (ht : ∀ a xs, H a = some (HO.tup xs) → H' a = some (HO.tup xs)) : ∀ (d : PyData) {v : V}, Dat H v d → Dat H' v d
  | .none, _, h => by simp only [Dat] at h ⊢; exact h
  | .bool _, _, h => by simp only [Dat] at h ⊢; exact h
  | .int _, _, h => by simp only [Dat] at h ⊢; exact h
  | .str _, _, h => by simp only [Dat] at h ⊢; exact h
  | .list ds, _, h => by simp only [Dat] at h ⊢; obtain ⟨a, vs, e, q, r⟩ := h; exact ⟨a, vs, e, hl _ _ q, Dats.mono hl ht ds r⟩
  | .tuple ds, _, h => by simp only [Dat] at h ⊢; obtain ⟨a, vs, e, q, r⟩ := h; exact ⟨a, vs, e, ht _ _ q, Dats.mono hl ht ds r⟩
  | .dict _, _, h => by simp only [Dat] at h
theorem Dats.mono (hl : ∀ a xs, H a = some (HO.lst xs) → H' a = some (HO.lst xs)) (ht : ∀ a xs, H a = some (HO.tup xs) → H' a = some (HO.tup xs)) : ∀ (ds : List PyData) {vs : List V}, Dats H vs ds → Dats H' vs ds
  | [], [], _ => by simp only [Dats]
  | d :: ds, v :: vs, h => by simp only [Dats] at h ⊢; exact ⟨Dat.mono hl ht d h.1, Dats.mono hl ht ds h.2⟩
  | _ :: _, [], h => by simp only [Dats] at h
  | [], _ :: _, h => by simp only [Dats] at h
end
mutual
/-- no list within -/
def imm : PyData → Bool
  | .tuple ds => imms ds
  | .list _ | .dict _ => false
  | .none | .bool _ | .int _ | .str _ => true
def imms : List PyData → Bool
  | [] => true
  | d :: ds => imm d && imms ds
end
mutual
theorem Dat.keep (ht : ∀ a xs, H a = some (HO.tup xs) → H' a = some (HO.tup xs)) : ∀ (d : PyData) {v : V}, imm d = true → Dat H v d → Dat H' v d
  | .none, _, _, h => by simp only [Dat] at h ⊢; exact h
  | .bool _, _, _, h => by simp only [Dat] at h ⊢; exact h
  | .int _, _, _, h => by simp only [Dat] at h ⊢; exact h
  | .str _, _, _, h => by simp only [Dat] at h ⊢; exact h
  | .list ds, _, i, h => by simp only [imm] at i; cases i
  | .tuple ds, _, i, h => by simp only [Dat] at h ⊢; simp only [imm] at i; obtain ⟨a, vs, e, q, r⟩ := h; exact ⟨a, vs, e, ht _ _ q, Dats.keep ht ds i r⟩
  | .dict _, _, _, h => by simp only [Dat] at h
theorem Dats.keep (ht : ∀ a xs, H a = some (HO.tup xs) → H' a = some (HO.tup xs)) : ∀ (ds : List PyData) {vs : List V}, imms ds = true → Dats H vs ds → Dats H' vs ds
  | [], [], _, _ => by simp only [Dats]
  | d :: ds, v :: vs, i, h => by simp only [Dats] at h ⊢; simp only [imms, Bool.and_eq_true] at i; exact ⟨Dat.keep ht d i.1 h.1, Dats.keep ht ds i.2 h.2⟩
  | _ :: _, [], _, h => by simp only [Dats] at h
  | [], _ :: _, _, h => by simp only [Dats] at h
end
theorem imms_map {α : Type} (f : α → PyData) (h : ∀ x, imm (f x) = true) : ∀ l : List α, imms (l.map f) = true
  | [] => rfl
  | a :: l => by simp only [List.map_cons, imms, h a, imms_map f h l, Bool.and_self]
end

section
variable {X : Cx} {pins : List (Addr × Obj)} {σ : St} {H : Hp} {s : Shared}
mutual
theorem Inv.reads (I : Inv X pins σ H s) : ∀ (d : PyData) {v : V} {u : Value}, Dat H v d → RelV v u → ∃ as, Reads s.heap u d as
  | .none, v, u, h, r => by
    simp only [Dat] at h; subst h; cases (show u = Value.none from r); exact ⟨_, .none⟩
  | .bool b, v, u, h, r => by
    simp only [Dat] at h; subst h; cases (show u = Value.bool b from r); exact ⟨_, .bool b⟩
  | .int i, v, u, h, r => by
    simp only [Dat] at h; subst h; obtain ⟨t, q⟩ := (show ∃ t, u = Value.int i t from r); cases q; exact ⟨_, .int i t⟩
  | .str x, v, u, h, r => by
    simp only [Dat] at h; subst h; obtain ⟨t, q⟩ := (show ∃ t, u = Value.str x t from r); cases q; exact ⟨_, .str x t⟩
  | .list ds, v, u, h, r => by
    simp only [Dat] at h
    obtain ⟨a, vs, rfl, q, g⟩ := h
    cases (show u = Value.ref a from r)
    obtain ⟨its, rv, p, hz⟩ := I.list (SqL.of q)
    obtain ⟨o, ho, hc, n, hd⟩ := p.isList
    obtain ⟨as, ra⟩ := Inv.readsAll I ds g rv
    exact ⟨_, .list ho hc hd (by simpa using ra)⟩
  | .tuple ds, v, u, h, r => by
    simp only [Dat] at h
    obtain ⟨a, vs, rfl, q, g⟩ := h
    cases (show u = Value.ref a from r)
    obtain ⟨its, rv, p, hz⟩ := I.tuple (SqT.of q)
    obtain ⟨o, ho, hc, n, hd⟩ := p
    obtain ⟨as, ra⟩ := Inv.readsAll I ds g rv
    exact ⟨_, .tuple ho hc hd (by simpa using ra)⟩
  | .dict _, _, _, h, _ => by simp only [Dat] at h
theorem Inv.readsAll (I : Inv X pins σ H s) : ∀ (ds : List PyData) {vs : List V} {us : List Value}, Dats H vs ds → Vals vs us → ∃ as, ReadsAll s.heap us ds as
  | [], [], _, _, .nil => ⟨_, .nil⟩
  | d :: ds, v :: vs, _, h, .cons r rs => by
    simp only [Dats] at h
    obtain ⟨as, ra⟩ := Inv.reads I d h.1 r
    obtain ⟨bs, rb⟩ := Inv.readsAll I ds h.2 rs
    exact ⟨_, .cons ra rb⟩
  | _ :: _, [], _, h, _ => by simp only [Dats] at h
  | [], _ :: _, _, h, _ => by simp only [Dats] at h
end
/-- == and != of data -/
def rEqD (neg : Bool) : R2 := fun x y H Q => ∃ d e, Dat H x d ∧ Dat H y e ∧ SeqAt.shaped d = true ∧ SeqAt.shaped e = true ∧ Q (.bl (if neg then !PyData.eqv d e else PyData.eqv d e)) H
theorem op_eqD (hu : X.A.units + 64 < cLine) : OpR X (compareOp .Eq) (rEqD false) := by
  intro pins s σ H x y v u Q I rx ry h
  obtain ⟨d, e, h1, h2, s1, s2, q⟩ := h
  obtain ⟨as, ra⟩ := I.reads d h1 rx
  obtain ⟨bs, rb⟩ := I.reads e h2 ry
  exact SeqAt.compareEq_shaped ra rb s1 s2 hu ⟨.bl _, H, I, rfl, q⟩
theorem op_neD (hu : X.A.units + 64 < cLine) : OpR X (compareOp .NotEq) (rEqD true) := by
  intro pins s σ H x y v u Q I rx ry h
  obtain ⟨d, e, h1, h2, s1, s2, q⟩ := h
  obtain ⟨as, ra⟩ := I.reads d h1 rx
  obtain ⟨bs, rb⟩ := I.reads e h2 ry
  exact SeqAt.compareNe_shaped ra rb s1 s2 hu ⟨.bl _, H, I, rfl, q⟩

/-! ### isinstance -/
/-- isinstance(x, c): c's value is known -/
theorem call_isi {c : Value} {cv : V} (rc : RelV cv c) : CallR X (.builtin "isinstance") (fun xs H Q => ∃ x t b, xs = [x, cv] ∧ TyOf X.K H x t ∧ PySem.W.kitOne X.K t c = some b ∧ Q (.bl b) H) := by
  intro pins s σ H xs us Q I r h
  obtain ⟨x, t, b, rfl, ty, e, q⟩ := h
  obtain ⟨u, w', rfl, r1, r2⟩ := vals2 r
  have : w' = c := by
    cases cv with
    | non => exact (show w' = Value.none from r2).trans (show c = Value.none from rc).symm
    | bl b => exact (show w' = Value.bool b from r2).trans (show c = Value.bool b from rc).symm
    | ref a => exact (show w' = Value.ref a from r2).trans (show c = Value.ref a from rc).symm
    | ty n => exact (show w' = Value.type n from r2).trans (show c = Value.type n from rc).symm
    | int i => obtain ⟨t1, rfl⟩ := (show ∃ t, c = Value.int i t from rc); unfold PySem.W.kitOne at e; exact absurd e (by cases ty <;> simp [PySem.W.kitCls])
    | str i => obtain ⟨t1, rfl⟩ := (show ∃ t, c = Value.str i t from rc); unfold PySem.W.kitOne at e; exact absurd e (by cases ty <;> simp [PySem.W.kitCls])
    | byt i => obtain ⟨t1, rfl⟩ := (show ∃ t, c = Value.bytes i t from rc); unfold PySem.W.kitOne at e; exact absurd e (by cases ty <;> simp [PySem.W.kitCls])
    | flt i => obtain ⟨t1, rfl⟩ := (show ∃ t, c = Value.float i t from rc); unfold PySem.W.kitOne at e; exact absurd e (by cases ty <;> simp [PySem.W.kitCls])
  subst this
  exact isinst_ok I r1 ty e fun tk => ⟨.bl b, H, I.tok _, rfl, q⟩
end

/-! ### all, any over a list of bools -/
section
variable {prog : Program} {w : World} {A : Around}
theorem walks_list (hh : A.handled = none) (it a : Addr) (hne : it ≠ a) (its : List Value) : Walks prog w A it [it, a] [it] its.length (fun i v => its[i]? = some v) (fun i h => h.IsListIter it a i ∧ h.IsList a its.toArray) where
  sub := by simp
  frame := fun i h h' ⟨s1, o, ho, hc⟩ k => ⟨s1.at fun o e => k it (by simp) o e, o, k a (by simp) o ho, hc⟩
  item := fun i s Q E hi ⟨s1, s2⟩ hQ => wpAny_pyNext_list_item s1 s2 (x := its[i]) (by simp [hi]) fun h' st' sb =>
    hQ _ h' s.toks (by simp [hi]) ⟨st', s2.extBut sb.extBut hne.symm⟩ fun b o hb e => (sb.2 b (by simpa using hb)).trans e
  done := fun s Q E ⟨s1, s2⟩ hQ => wpAny_pyNext_list_end hh s1 s2 (by simp) fun h' eb => hQ h' s.toks fun b o hb e => eb b o (by simpa using hb) e
  self := fun i s Q E ⟨s1, _⟩ hQ => wpAny_pyIter_listiter s1 hQ
end
section
variable {X : Cx}
theorem range_all_get (bs : List Bool) : (List.range bs.length).all (fun i => (bs[i]?).getD false) = bs.all id := by
  rw [Bool.eq_iff_iff, List.all_eq_true, List.all_eq_true]
  constructor
  · intro h b hb
    obtain ⟨i, hi, rfl⟩ := List.getElem_of_mem hb
    have := h i (by simpa using hi)
    simpa [hi] using this
  · intro h i hi
    have hi' : i < bs.length := by simpa using hi
    simpa [hi'] using h bs[i] (List.getElem_mem hi')
theorem vals_bools {bs : List Bool} : ∀ {us : List Value}, Vals (bs.map V.bl) us → us = bs.map Value.bool := by
  induction bs with
  | nil => intro us r; cases r; rfl
  | cons b bs ih =>
    intro us r
    cases r with
    | cons r rs => cases (show _ = Value.bool b from r); rw [ih rs]; rfl
theorem call_all_bools (hc : X.calm = true) : CallR X (.builtin "all") (fun xs H Q => ∃ (p : Addr) (bs : List Bool), xs = [.ref p] ∧ SqL X.K H p (bs.map V.bl) ∧ Q (.bl (bs.all id)) H) := by
  intro pins s σ H xs us Q I r h
  obtain ⟨p, bs, rfl, hq, q⟩ := h
  obtain ⟨u, rfl, rx⟩ := vals1 r
  cases rx
  obtain ⟨its, rv, pl, hz⟩ := I.list hq
  have e := vals_bools rv
  have hlen : its.length = bs.length := by rw [e, List.length_map]
  refine call_all_walk (wpAny_pyIter_list pl.isList ⟨s.heap.objs.size, [s.heap.objs.size, p], [s.heap.objs.size], its.length, _, _, fun i => (bs[i]?).getD false, rfl,
    walks_list (show X.A.in1.handled = none from I.ok.hd hc) s.heap.objs.size p ?_ its, ⟨⟨_, Heap.get?_push_size _ rfl, rfl, rfl⟩, ?_⟩, ?_, ?_⟩)
  · intro z
    obtain ⟨o, ho, _⟩ := pl.isList
    have := Heap.lt_size ho
    rw [← z] at this
    exact Nat.lt_irrefl _ this
  · obtain ⟨o, ho, hcl⟩ := pl.isList
    exact ⟨o, Heap.get?_push_of_some _ ho, hcl⟩
  · intro i v s1 Q1 E1 hP hQ
    rw [e, List.getElem?_map] at hP
    cases r : bs[i]? with
    | none => rw [r] at hP; cases hP
    | some b =>
      rw [r] at hP
      cases hP
      simp only [r, Option.getD_some] at hQ
      exact wpAny_truthy_bool hQ
  · intro h' tk k
    rw [hlen, range_all_get]
    have f := I.fpOk (H' := H) (b := s.heap.objs.size) (Nat.le_refl _) (I.hok.fresh (Nat.le_refl _))
    have I2 : Inv X pins σ H { s with heap := h', toks := tk } := I.turned (h' := h') (t' := tk) (it := s.heap.objs.size) (fun b o hb e => k b o (by simpa using hb) (Heap.get?_push_of_some _ e)) f.1 f.2.1 f.2.2.2.1 f.2.2.2.2.1 f.2.2.2.2.2
    exact ⟨.bl _, H, I2, rfl, q⟩
end
end L2
set_option Elab.async false
set_option linter.all false
set_option maxRecDepth 100000
set_option maxHeartbeats 4000000
namespace L2
open PySem PySem.Spec PyProof.Rows

/-! ### a def of the text, called by its name; no exception leaves it -/
def FnAt (P : Program) (w : World) (K : PySem.W.Frag) (mg : Str → Option Value) (base : Heap) (k : Nat) (x : Str) (ps : List Str) (sp : Sp) : Prop :=
  ∃ f fd, FnOk P w K mg base CX0 k f fd ps sp ∧ mg x = some (.ref f) ∧ PySem.W.keepIn K (.ref f) = true ∧ Binds K fd ps []
section
variable {X : Cx} {k j : Nat} {x : Str} {ps : List Str} {sp : Sp} {e : Expr} {es : List Expr} {t : TA} {p pos : Pos}
theorem pe_fn (F : FnAt X.prog X.w X.K X.mg X.base k x ps sp) (hr : Room k X.A) (hg : Gl X x) (ha : PA X (e :: es) t) (hd : (x == ("__debug__" : Str)) = false := by decide)
    (he : starEach (e :: es) X.env = (false, eval e X.env) :: starEach es X.env := by rfl) (hpl : (backTo pos (starEach es X.env)).any (·.1) = false := by rfl) :
    PE X (.Call (.Name x p) (e :: es) [] pos) (tCall sp [] E0 t) := by
  obtain ⟨f, fd, G, hm, hk, hb⟩ := F
  exact pe_call G hr hg hm hk hb .nil pass0 ha (hdb := hd) (he := he) (hpl := hpl)
end

/-! ### what the built-in names are -/
theorem bt_abs : bootBuiltins "abs" = some (.builtin "abs") := by kernel_rfl
theorem bt_all : bootBuiltins "all" = some (.builtin "all") := by kernel_rfl
theorem bt_len : bootBuiltins "len" = some (.builtin "len") := by kernel_rfl
theorem bt_isinstance : bootBuiltins "isinstance" = some (.builtin "isinstance") := by kernel_rfl
theorem bt_int : bootBuiltins "int" = some (.type "int") := by kernel_rfl
theorem bt_bool : bootBuiltins "bool" = some (.type "bool") := by kernel_rfl
theorem bt_list : bootBuiltins "list" = some (.type "list") := by kernel_rfl
theorem bt_tuple : bootBuiltins "tuple" = some (.type "tuple") := by kernel_rfl
/-! ### a product whose size fits -/
section
variable {X : Cx}
theorem op_mulB : OpR X (binaryOp .Mult) (rI IntMulOk fun i j => .int (i * j)) := opI fun _ _ _ _ _ _ _ hc q => mul_int q hc
end

/-! ### heaps: what stays -/
/-- all stays but what stands at r -/
def Kp (r : Addr) (H H' : Hp) : Prop := ∀ b o, H b = some o → b ≠ r → H' b = some o
theorem Kp.of_same {r : Addr} {H H' : Hp} (h : Same H H') : Kp r H H' := fun b o e _ => h b o e
theorem Kp.trans {r : Addr} {H H1 H2 : Hp} (a : Kp r H H1) (b : Kp r H1 H2) : Kp r H H2 := fun c o h n => b c o (a c o h n) n
theorem Kp.set {r : Addr} {H : Hp} {o : HO} : Kp r H (upd H r o) := fun b u e n => by rw [upd_ne n]; exact e
theorem same_new {H : Hp} {p : Addr} {o : HO} (h : H p = none) : Same H (upd H p o) := fun b u e => by rw [upd_ne (ne_of_none e h)]; exact e
theorem Same.tups {H H' : Hp} (e : Same H H') : ∀ a xs, H a = some (HO.tup xs) → H' a = some (HO.tup xs) := fun a xs h => e _ _ h
theorem Same.sqL {K : PySem.W.Frag} {H H' : Hp} (e : Same H H') : ∀ a xs, SqL K H a xs → SqL K H' a xs := fun a xs h => e.seq h
/-- a list at r: tuples are elsewhere -/
theorem Kp.tups {H H' : Hp} {r : Addr} {ys : List V} (e : Kp r H H') (hr : H r = some (.lst ys)) : ∀ a xs, H a = some (HO.tup xs) → H' a = some (HO.tup xs) := fun a xs h => e _ _ h (ne_of h hr (by intro z; cases z))
end L2

/-! ### the rules over K itself (a block's context has the same K) -/
namespace L2
open PySem PySem.Spec PyProof.Rows
section
variable {X : Cx} {K : PySem.W.Frag}
theorem ix_listK (h : X.K = K) : IxR X (rIxL K) := by subst h; exact ix_list
theorem ix_tupK (h : X.K = K) : IxR X (rIxT K) := by subst h; exact ix_tup
theorem sl_listK (h : X.K = K) : SlR X (rSlL K) := by subst h; exact sl_list
theorem op_in_seqK (h : X.K = K) : OpR X (compareOp .In) (rIn K false) := by subst h; exact op_in_seq
def rLen (K : PySem.W.Frag) : List V → Hp → VK → Prop := fun xs H Q => ∃ (p : Addr) (ys : List V), xs = [.ref p] ∧ (SqL K H p ys ∨ SqT K H p ys) ∧ Q (.int ys.length) H
theorem call_len_seqK (h : X.K = K) : CallR X (.builtin "len") (rLen K) := by subst h; exact call_len_seq
def rListOf (K : PySem.W.Frag) : List V → Hp → VK → Prop := fun xs H Q => ∃ (p : Addr) (ys : List V), xs = [.ref p] ∧ (SqL K H p ys ∨ SqT K H p ys) ∧ ∀ l, H l = none → Q (.ref l) (upd H l (.lst ys))
theorem call_list_ofK (h : X.K = K) : CallR X (.type "list") (rListOf K) := by subst h; exact call_list_of
def rAllB (K : PySem.W.Frag) : List V → Hp → VK → Prop := fun xs H Q => ∃ (p : Addr) (bs : List Bool), xs = [.ref p] ∧ SqL K H p (bs.map V.bl) ∧ Q (.bl (bs.all id)) H
theorem call_all_boolsK (h : X.K = K) (hc : X.calm = true) : CallR X (.builtin "all") (rAllB K) := by subst h; exact call_all_bools hc
theorem op_eqDK (h : X.K = K) (hu : X.A.units + 64 < cLine) : OpR X (compareOp .Eq) (rEqD false) := by subst h; exact op_eqD hu
theorem op_neDK (h : X.K = K) (hu : X.A.units + 64 < cLine) : OpR X (compareOp .NotEq) (rEqD true) := by subst h; exact op_neD hu
theorem pi_listK {tg l : Expr} {tl : TE} (h : X.K = K) (hl : PE X l tl) : PI X tg l (iList K tl) := by subst h; exact pi_list hl
def rIsi (K : PySem.W.Frag) (c : Value) (cv : V) : List V → Hp → VK → Prop := fun xs H Q => ∃ x t b, xs = [x, cv] ∧ TyOf K H x t ∧ PySem.W.kitOne K t c = some b ∧ Q (.bl b) H
theorem call_isiK {c : Value} {cv : V} (h : X.K = K) (rc : RelV cv c) : CallR X (.builtin "isinstance") (rIsi K c cv) := by subst h; exact call_isi rc
theorem pe_appendK {o e : Expr} {to : TE} {t : TA} {apos cpos : Pos} (h : X.K = K) (ho : PE X o to) (ha : PA X [e] t)
    (hbase : attributeBase o "append" X.env (eval o X.env) = eval o X.env := by rfl)
    (hfew : ((backTo cpos (starEach [e] X.env)).all (fun x => !x.1) && (backToKw cpos (keywordEach [] X.env)).all (fun x => x.1.isSome)
      && decide (([e] : List Expr).length + ([] : List Keyword).length + (if ([] : List Keyword).isEmpty then 0 else 1) < 30)) = true := by rfl)
    (hline : (apos.endLine == cpos.line) = true := by rfl) (hs : starEach [e] X.env = (false, eval e X.env) :: starEach [] X.env := by rfl) (hplain : (backTo cpos (starEach [] X.env)).any (·.1) = false := by rfl) :
    PE X (.Call (.Attribute o "append" apos) [e] [] cpos) (tBM K "list" rAppend to t) := by
  subst h
  exact pe_bm PySem.F.plainAttrs_list PySem.F.slot_list_append PySem.F.type_list_append mt_append ho ha hbase hfew hline hs hplain
end
end L2
namespace L2
open PySem
/-! ### comprehensions by their invariant -/
section
variable {K : PySem.W.Frag} {a D : Addr} {xs : List V} {g : TG} {tc : TT} {te : TE} {Q : VK} {σ0 : St} {H1 : Hp}
/-- over a list that the block leaves as it is -/
theorem comp_list (Pv : Nat → St → Hp → Prop) (h0 : Pv 0 σ0 (upd H1 D (.lst []))) (hl : ∀ i σ H, i ≤ xs.length → Pv i σ H → SqL K H a xs)
    (hs : ∀ i x σ H, xs[i]? = some x → Pv i σ H → g x σ H fun σ2 H2 => tc σ2 H2 fun b H3 =>
      if b = true then te σ2 H3 fun y H4 => ∃ acc, H4 D = some (.lst acc) ∧ acc.length < sizeLine ∧ Pv (i + 1) σ2 (upd H4 D (.lst (acc ++ [y]))) else Pv (i + 1) σ2 H3)
    (hd : ∀ σ H, Pv xs.length σ H → Q (.ref D) H) : CompW (Itl K a) g tc te Q D σ0 H1 := by
  refine ⟨fun i m σ H => m = xs.length - i ∧ i ≤ xs.length ∧ Pv i σ H, ⟨xs.length, by simp, Nat.zero_le _, h0⟩, ?_⟩
  rintro i m σ H ⟨rfl, hi, p⟩
  have q := hl i σ H hi p
  by_cases hlt : i < xs.length
  · refine .inr ⟨⟨xs, xs[i], q, by simp [hlt]⟩, Pv (i + 1), fun σ' H' p' => ⟨xs.length - (i + 1), by omega, rfl, hlt, p'⟩, fun x H' y => ?_⟩
    obtain ⟨e, y⟩ := y
    subst e
    exact hs i x σ _ (y xs q) p
  · have e : i = xs.length := by omega
    subst e
    exact .inl ⟨⟨xs, q, Nat.le_refl _⟩, hd σ H p⟩
theorem comp_range {lo : Int} {n : Nat} (Pv : Nat → St → Hp → Prop) (h0 : Pv 0 σ0 (upd H1 D (.lst [])))
    (hs : ∀ i σ H, i < n → Pv i σ H → g (.int (lo + i)) σ H fun σ2 H2 => tc σ2 H2 fun b H3 =>
      if b = true then te σ2 H3 fun y H4 => ∃ acc, H4 D = some (.lst acc) ∧ acc.length < sizeLine ∧ Pv (i + 1) σ2 (upd H4 D (.lst (acc ++ [y]))) else Pv (i + 1) σ2 H3)
    (hd : ∀ σ H, Pv n σ H → Q (.ref D) H) : CompW (Itr lo n) g tc te Q D σ0 H1 := by
  refine ⟨fun i m σ H => m = n - i ∧ i ≤ n ∧ Pv i σ H, ⟨n, by simp, Nat.zero_le _, h0⟩, ?_⟩
  rintro i m σ H ⟨rfl, hi, p⟩
  by_cases hlt : i < n
  · refine .inr ⟨hlt, Pv (i + 1), fun σ' H' p' => ⟨n - (i + 1), by omega, rfl, hlt, p'⟩, fun x H' y => ?_⟩
    obtain ⟨e, y⟩ := y
    subst e y
    exact hs i σ _ hlt p
  · have e : i = n := by omega
    subst e
    exact .inl ⟨Nat.le_refl _, hd σ H p⟩
end
end L2
set_option Elab.async false
set_option linter.all false
set_option maxRecDepth 100000
set_option maxHeartbeats 4000000
namespace L2
open PySem PySem.Spec PyProof.Rows
/-! ### lists of data: shape and equality -/
section
variable {α : Type} (f : α → PyData)
theorem canAll_map : ∀ (l : List α), (∀ x ∈ l, (f x).canLay0 = true) → PyData.canLayAll0 (l.map f) = true
  | [], _ => rfl
  | a :: l, h => by
    show (PyData.canLay0 (f a) && PyData.canLayAll0 (l.map f)) = true
    rw [h a List.mem_cons_self, canAll_map l fun x hx => h x (List.mem_cons_of_mem _ hx)]; rfl
theorem depthAll_map (k : Nat) : ∀ (l : List α), (∀ x ∈ l, (f x).depth ≤ k) → PyData.depthAll (l.map f) ≤ k
  | [], _ => Nat.zero_le _
  | a :: l, h => by
    show max (PyData.depth (f a)) (PyData.depthAll (l.map f)) ≤ k
    exact Nat.max_le.mpr ⟨h a List.mem_cons_self, depthAll_map k l fun x hx => h x (List.mem_cons_of_mem _ hx)⟩
theorem shaped_list {l : List α} (k : Nat) (hk : k < 64) (h1 : ∀ x ∈ l, (f x).canLay0 = true) (h2 : ∀ x ∈ l, (f x).depth ≤ k) : SeqAt.shaped (.list (l.map f)) = true := by
  unfold SeqAt.shaped
  have e1 : PyData.canLay0 (.list (l.map f)) = true := canAll_map f l h1
  have e2 : PyData.depth (.list (l.map f)) ≤ 64 := by
    show PyData.depthAll (l.map f) + 1 ≤ 64
    have := depthAll_map f k l h2
    omega
  rw [e1, decide_eq_true e2]; rfl
theorem eqvAll_map [DecidableEq α] (h : ∀ x y, PyData.eqv (f x) (f y) = decide (x = y)) : ∀ (l m : List α), PyData.eqvAll (l.map f) (m.map f) = decide (l = m)
  | [], [] => rfl
  | [], _ :: _ => by simp only [List.map_nil, List.map_cons, PyData.eqvAll]; exact (decide_eq_false (by intro z; cases z)).symm
  | _ :: _, [] => by simp only [List.map_nil, List.map_cons, PyData.eqvAll]; exact (decide_eq_false (by intro z; cases z)).symm
  | a :: l, b :: m => by
    simp only [List.map_cons, PyData.eqvAll]
    rw [h a b, eqvAll_map h l m]
    by_cases e1 : a = b
    · subst e1
      by_cases e2 : l = m
      · subst e2; simp
      · simp [e2]
    · simp [e1]
theorem eqv_list [DecidableEq α] (h : ∀ x y, PyData.eqv (f x) (f y) = decide (x = y)) (l m : List α) : PyData.eqv (.list (l.map f)) (.list (m.map f)) = decide (l = m) := by
  simp only [PyData.eqv]; exact eqvAll_map f h l m
end
theorem dat_list {H : Hp} {a : Addr} {vs : List V} {ds : List PyData} (h : H a = some (.lst vs)) (d : Dats H vs ds) : Dat H (.ref a) (.list ds) := by
  simp only [Dat]
  exact ⟨a, vs, rfl, h, d⟩
theorem isi_int_int (K : PySem.W.Frag) : PySem.W.kitOne K (.type "int") (.type "int") = some true := rfl
theorem isi_int_bool (K : PySem.W.Frag) : PySem.W.kitOne K (.type "int") (.type "bool") = some false := by kernel_rfl
theorem isi_list_list (K : PySem.W.Frag) : PySem.W.kitOne K (.type "list") (.type "list") = some true := rfl
theorem isi_tuple_tuple (K : PySem.W.Frag) : PySem.W.kitOne K (.type "tuple") (.type "tuple") = some true := rfl
end L2
namespace L2
open PySem
theorem cut_take (xs : List V) (k : Nat) : cutV xs none (some (k : Int)) = xs.take k := by
  unfold cutV
  rw [HT.sIx_none, HT.sIx_nat, List.drop_zero, Nat.sub_zero]
  by_cases h : k ≤ xs.length
  · rw [Nat.min_eq_left h]
  · rw [Nat.min_eq_right (by omega), List.take_of_length_le (Nat.le_refl _), List.take_of_length_le (by omega)]
theorem cut_drop (xs : List V) (k : Nat) : cutV xs (some (k : Int)) none = xs.drop k := by
  unfold cutV
  rw [HT.sIx_none, HT.sIx_nat]
  by_cases h : k ≤ xs.length
  · rw [Nat.min_eq_left h, List.take_of_length_le (by rw [List.length_drop]; exact Nat.le_refl _)]
  · rw [Nat.min_eq_right (by omega), Nat.sub_self, List.take_zero, List.drop_of_length_le (by omega)]
end L2
set_option Elab.async false
set_option linter.all false
set_option maxRecDepth 100000
set_option maxHeartbeats 4000000
namespace PySem.W
open PySem PySem.Spec PySem.Calls PyProof.Rows
section
variable {prog : Program} {w : World} {A : Around} {E : Value → Shared → Prop} {s : Shared} {K : Frag} {x D : Addr} {ox : Obj} {odo : Option Obj} {name : Str}
end
/-- what the text's class of exceptions must have -/
structure XCls (K : Frag) (D : Addr) : Prop where
  hga : findIn K (.ref D) "__getattribute__" = some (some (.builtin "BaseException.__getattribute__"))
  hk : findIn K (.ref D) "__getattr__" = some none
  hB : mroIn K D (.type "BaseException") = some true
  hc : (clsIn K D).isSome = true
  ha : findIn K (.ref D) "__class__" = some (some (.builtin "object.__class__"))
  hn : specialIn K (.builtin "object.__class__") "__get__" = some (some (.builtin "getset_descriptor.__get__"))
  htk : takesIn K (.builtin "object.__class__") = some true
  hm : mroIn K D (.type "object") = some true
end PySem.W
set_option Elab.async false
set_option linter.all false
set_option maxRecDepth 100000
set_option maxHeartbeats 4000000
namespace L2
open PySem PySem.Spec PyProof.Rows

/-! ### an exception and its record -/
/-- the exception at e: of the class cls, its dict at dx; fl: none, no record yet; some f: its record's flight is f, the record lies where lo says -/
def XObj (h : Heap) (e : Addr) (cls : Value) (dx : Option Addr) (lo : Addr → Prop) : Option Value → Prop
  | none => ∃ oe vs, h.get? e = some oe ∧ oe.cls = cls ∧ oe.dict = dx ∧ oe.data = .fields vs ∧ vs[1]? = some .none
  | some f => ∃ oe vs T oT ts, h.get? e = some oe ∧ oe.cls = cls ∧ oe.dict = dx ∧ oe.data = .fields vs ∧ vs[1]? = some (.ref T) ∧ lo T ∧ T ≠ e ∧ h.get? T = some oT ∧ oT.data = .fields ts ∧ ts[3]? = some f
theorem XObj.there {h : Heap} {e : Addr} {cls : Value} {dx : Option Addr} {lo : Addr → Prop} {f : Option Value} (x : XObj h e cls dx lo f) : ∃ oe vs, h.get? e = some oe ∧ oe.cls = cls ∧ oe.dict = dx ∧ oe.data = .fields vs := by
  cases f with
  | none => obtain ⟨oe, vs, a, b, c, d, _⟩ := x; exact ⟨oe, vs, a, b, c, d⟩
  | some f => obtain ⟨oe, vs, _, _, _, a, b, c, d, _⟩ := x; exact ⟨oe, vs, a, b, c, d⟩

section
variable {M : Model} {A : Around} {E : Value → Shared → Prop} {s : Shared} {base : Heap} {env : Env} {outer : List Env} {L e : Addr}
/-- what a note leaves: all but the frames' slots, the exception and old records -/
structure Noted (fr : List Addr) (e : Addr) (lo : Addr → Prop) (h h' : Heap) : Prop where
  keep : ∀ b o, h.get? b = some o → b ∉ fr → b ≠ e → ¬ lo b → h'.get? b = some o
  slot : ∀ b o, h.get? b = some o → b ∈ fr → b ≠ e → ¬ lo b → ∃ sl, h'.get? b = some { o with slots := sl }
  there : ∀ b o, h.get? b = some o → ∃ o', h'.get? b = some o'
theorem Noted.trans {fr : List Addr} {lo : Addr → Prop} {h h1 h2 : Heap} (a : Noted fr e lo h h1) (b : Noted fr e lo h1 h2) : Noted fr e lo h h2 where
  keep := fun c o q n1 n2 n3 => b.keep c o (a.keep c o q n1 n2 n3) n1 n2 n3
  slot := fun c o q n1 n2 n3 => by
    obtain ⟨sl, q1⟩ := a.slot c o q n1 n2 n3
    obtain ⟨sl2, q2⟩ := b.slot c _ q1 n1 n2 n3
    exact ⟨sl2, q2⟩
  there := fun c o q => by
    obtain ⟨o1, q1⟩ := a.there c o q
    exact b.there c o1 q1
theorem upd_fields {h : Heap} {a : Addr} {o : Obj} {vs : Array Value} (q : h.get? a = some o) (d : o.data = .fields vs) (i : Nat) (v : Value) :
    (h.update a (Obj.mapFields (·.setIfInBounds i v))).get? a = some (Obj.mapFields (·.setIfInBounds i v) o) ∧ (Obj.mapFields (·.setIfInBounds i v) o).data = .fields (vs.setIfInBounds i v) ∧
      (Obj.mapFields (·.setIfInBounds i v) o).cls = o.cls ∧ (Obj.mapFields (·.setIfInBounds i v) o).dict = o.dict := by
  have d2 := Obj.data_mapFields d (·.setIfInBounds i v)
  refine ⟨Heap.get?_update_self _ q (Obj.isFreed_of_fields d2), d2, Obj.cls_mapFields _ _, ?_⟩
  obtain ⟨c, dd, dt, sl⟩ := o
  simp only at d
  subst d
  rfl
/-- a record is laid and named by the exception -/
theorem xentry {oe : Obj} {vs : Array Value} {head : Value} {hadNext : Bool} {cls : Value} {dx : Option Addr} {lo : Addr → Prop} {Q : Unit → Shared → Prop} (hfr : A.frames = some (env :: outer)) (hl : s.heap.FunFrames base (env :: outer)) (hf : env.frame = some L)
    (he : s.heap.get? e = some oe) (hd : oe.data = .fields vs) (hsz : 1 < vs.size) (hc : oe.cls = cls) (hdx : oe.dict = dx) (hlo : ∀ T, s.heap.get? T = none → lo T)
    (h : ∀ h', Noted (frs (env :: outer)) e lo s.heap h' → XObj h' e cls dx lo (some (rawInt L)) → Q () { s with heap := h' }) :
    wpAny M A (do let a ← frameOf env; let pl ← entryPlaceOf L hadNext; let b ← EntryCells.newEntry head a .none (rawInt L) .none pl; setField (.ref e) 1 b) Q E s := by
  have nfr : e ∉ frs (env :: outer) := fun hm => by
    obtain ⟨_, o, q, nf⟩ := hl.mem hm
    rw [he] at q
    cases q
    exact nf vs hd
  refine wpAny_bind (wpAny_frameOf_fun hfr hl hf fun h1 hs1 => ?_)
  refine wpAny_bind (wpAny_entryPlaceOf fun pl hpl => ?_)
  unfold EntryCells.newEntry newFields
  refine wpAny_bind (wpAny_newObj_type ?_ (hpl.sizeOk5 _ _ _ _ _))
  generalize hob : ({ cls := .type "traceback", dict := none, data := .fields ([head, .ref L, .none, rawInt L, .none] ++ (if pl.isEmpty then List.replicate 6 Value.none else pl)).toArray } : Obj) = ob
  have q1 : h1.get? e = some oe := (hs1.2.1 e nfr).trans he
  have q2 := Heap.get?_push_of_some (h := h1) ob q1
  have nTe : h1.objs.size ≠ e := Nat.ne_of_gt (Heap.lt_size q1)
  have sizes : h1.objs.size = s.heap.objs.size := hs1.1
  have newT : s.heap.get? h1.objs.size = none := Heap.get?_none_of_le (by rw [sizes]; exact Nat.le_refl _)
  refine wpAny_setField q2 hd hsz (h _ ⟨fun b o q n1 n2 n3 => ?_, fun b o q n1 n2 n3 => ?_, fun b o q => ?_⟩ ?_)
  · rw [Heap.get?_update_other _ _ (Ne.symm n2)]
    exact Heap.get?_push_of_some _ ((hs1.2.1 b n1).trans q)
  · obtain ⟨sl, q3⟩ := hs1.2.2 b o q
    refine ⟨sl, ?_⟩
    rw [Heap.get?_update_other _ _ (Ne.symm n2)]
    exact Heap.get?_push_of_some _ q3
  · obtain ⟨sl, q3⟩ := hs1.2.2 b o q
    by_cases hb : b = e
    · subst hb
      exact ⟨_, (upd_fields q2 hd 1 _).1⟩
    · refine ⟨{ o with slots := sl }, ?_⟩
      rw [Heap.get?_update_other _ _ (Ne.symm hb)]
      exact Heap.get?_push_of_some _ q3
  · obtain ⟨u1, u2, u3, u4⟩ := upd_fields q2 hd 1 (Value.ref h1.objs.size)
    refine ⟨_, _, h1.objs.size, ob, _, u1, u3.trans hc, u4.trans hdx, u2, by simp [hsz], hlo _ newT, nTe, ?_, by rw [← hob], ?_⟩
    · rw [Heap.get?_update_other _ _ (Ne.symm nTe)]
      exact Heap.get?_push_size _ (by rw [← hob]; rfl)
    · first | (simp; done) | (rcases hpl with rfl | ⟨_, _, _, _, _, _, _, rfl⟩ <;> simp)
/-- an exception without record, or with one that is not in flight, is noted at a frame -/
theorem xnote {cls : Value} {dx : Option Addr} {lo : Addr → Prop} {Q : Unit → Shared → Prop} {fl : Option Value} (hfl : fl = none ∨ fl = some .none) (hfr : A.frames = some (env :: outer)) (hl : s.heap.FunFrames base (env :: outer)) (hf : env.frame = some L)
    (x : XObj s.heap e cls dx lo fl) (hlo : ∀ T, s.heap.get? T = none → lo T)
    (h : ∀ h', Noted (frs (env :: outer)) e lo s.heap h' → XObj h' e cls dx lo (some (rawInt L)) → Q () { s with heap := h' }) : wpAny M A (noteFrame (.ref e) env) Q E s := by
  unfold noteFrame
  simp only [hf]
  rcases hfl with rfl | rfl
  · obtain ⟨oe, vs, he, hc, hdx, hd, h1⟩ := x
    refine wpAny_bind (wpAny_field he hd h1 ?_)
    rw [if_neg (by decide)]
    exact xentry hfr hl hf he hd (Array.getElem?_eq_some_iff.mp h1).1 hc hdx hlo h
  · obtain ⟨oe, vs, T, oT, ts, he, hc, hdx, hd, h1, hT, nT, hgT, hdT, h3⟩ := x
    refine wpAny_bind (wpAny_field he hd h1 ?_)
    rw [if_pos (show (Value.ref T != Value.none) = true from by simp)]
    refine wpAny_bind (wpAny_field hgT hdT h3 ?_)
    rw [if_neg (show ¬ ((Value.none == rawInt L) = true) from by simp [rawInt])]
    have hs3 : 3 < ts.size := (Array.getElem?_eq_some_iff.mp h3).1
    refine wpAny_bind (wpAny_setField hgT hdT hs3 ?_)
    have oth : ∀ b, b ≠ T → (s.heap.update T (Obj.mapFields (·.setIfInBounds 3 Value.none))).get? b = s.heap.get? b := fun b hb => Heap.get?_update_other _ _ (Ne.symm hb)
    obtain ⟨u1, u2, u3, u4⟩ := upd_fields hgT hdT 3 Value.none
    have n0 : Noted (frs (env :: outer)) e lo s.heap (s.heap.update T (Obj.mapFields (·.setIfInBounds 3 Value.none))) := by
      have nb : ∀ b, ¬ lo b → b ≠ T := fun b hb z => hb (by rw [z]; exact hT)
      refine ⟨fun b o q _ _ n3 => (oth b (nb b n3)).trans q, fun b o q _ _ n3 => ⟨o.slots, (oth b (nb b n3)).trans q⟩, fun b o q => ?_⟩
      by_cases hb : b = T
      · subst hb; exact ⟨_, u1⟩
      · exact ⟨o, (oth b hb).trans q⟩
    have ffs : (s.heap.update T (Obj.mapFields (·.setIfInBounds 3 Value.none))).FunFrames base (env :: outer) := hl.of_keeps fun b o q nf => by
      by_cases hb : b = T
      · subst hb; rw [hgT] at q; cases q; exact absurd hdT (nf ts)
      · exact ⟨o, (oth b hb).trans q, rfl⟩
    refine xentry (s := { s with heap := s.heap.update T (Obj.mapFields (·.setIfInBounds 3 Value.none)) }) hfr ffs hf ((oth e (Ne.symm nT)).trans he) hd (Array.getElem?_eq_some_iff.mp h1).1 hc hdx (fun T' z => ?_) fun h' n1 x1 => h h' (n0.trans n1) x1
    by_cases hb : T' = T
    · rw [hb]; exact hT
    · exact hlo T' ((oth T' hb).symm.trans z)
/-- its flight is ended -/
theorem xland {cls : Value} {dx : Option Addr} {lo : Addr → Prop} {Q : Unit → Shared → Prop} {fr : List Addr} {f : Value} (x : XObj s.heap e cls dx lo (some f)) 
    (h : ∀ h', Noted fr e lo s.heap h' → XObj h' e cls dx lo (some .none) → Q () { s with heap := h' }) : wpAny M A (setFlight (.ref e) none) Q E s := by
  obtain ⟨oe, vs, T, oT, ts, he, hc, hdx, hd, h1, hT, nT, hgT, hdT, h3⟩ := x
  have hs3 : 3 < ts.size := (Array.getElem?_eq_some_iff.mp h3).1
  unfold setFlight
  refine wpAny_bind (wpAny_field he hd h1 ?_)
  rw [if_pos (show (Value.ref T != Value.none) = true from by simp)]
  have oth : ∀ b, b ≠ T → (s.heap.update T (Obj.mapFields (·.setIfInBounds 3 Value.none))).get? b = s.heap.get? b := fun b hb => Heap.get?_update_other _ _ (Ne.symm hb)
  obtain ⟨u1, u2, u3, u4⟩ := upd_fields hgT hdT 3 Value.none
  have nb : ∀ b, ¬ lo b → b ≠ T := fun b hb z => hb (by rw [z]; exact hT)
  refine wpAny_setField hgT hdT hs3 (h _ ⟨fun b o q _ _ n3 => (oth b (nb b n3)).trans q, fun b o q _ _ n3 => ⟨o.slots, (oth b (nb b n3)).trans q⟩, fun b o q => ?_⟩ ?_)
  · by_cases hb : b = T
    · subst hb; exact ⟨_, u1⟩
    · exact ⟨o, (oth b hb).trans q⟩
  · exact ⟨oe, vs, T, _, _, (oth e (Ne.symm nT)).trans he, hc, hdx, hd, h1, hT, nT, u1, u2, by simp [hs3]⟩
end

section
variable {X : Cx} {pins : List (Addr × Obj)} {σ : St} {H : Hp} {s : Shared} {e : Addr}
theorem ObjOk.there {P : Program} {w : World} {H : Hp} {h : Heap} {a : Addr} {o : HO} (x : ObjOk P w H h a o) : ∃ ob, h.get? a = some ob := by
  induction o with
  | lst xs => obtain ⟨_, _, _, _, q⟩ := x; exact ⟨_, q⟩
  | tup xs => obtain ⟨_, _, _, ob, q, _⟩ := x; exact ⟨ob, q⟩
  | dK kvs => obtain ⟨_, _, _, _, ob, _, _, q, _⟩ := x; exact ⟨ob, q⟩
  | dT kvs => obtain ⟨_, _, _, _, ob, _, _, q, _⟩ := x; exact ⟨ob, q⟩
  | set S n => obtain ⟨ob, _, _, _, q, _⟩ := x; exact ⟨ob, q⟩
  | ins C dx fs => obtain ⟨_, _, _, q, _⟩ := x; exact ⟨_, q⟩
  | own y => exact x
  | xd fs => obtain ⟨_, ⟨ob, _, _, q, _⟩, _⟩ := x; exact ⟨ob, q⟩
  | rng lo hi => obtain ⟨_, _, _, q⟩ := x; exact ⟨_, q⟩
  | frz ob u ih => exact ⟨ob, x.1⟩
  | tbl ps => exact ⟨_, x⟩
  | met f y => exact ⟨_, x⟩
  | ext φ => exact x.2.1
/-- an address of the exception's own: not tracked, not of the frame's, unknown at the entry -/
def XFp (X : Cx) (pins : List (Addr × Obj)) (H : Hp) (b : Addr) : Prop :=
  H b = none ∧ b ≠ X.env.locals ∧ b ∉ X.fs ∧ X.s₀.heap.get? b = none ∧ (∀ x c, X.env.cells.lookup x = some c → c ≠ b) ∧ ∀ p ∈ X.pn ++ pins, p.1 ≠ b
theorem Inv.xfp (I : Inv X pins σ H s) (hx : X.ex = []) {b : Addr} (hb : s.heap.get? b = none) : XFp X pins H b := by
  refine ⟨?_, fun z => ?_, fun z => ?_, ?_, fun x c q z => ?_, fun p hp z => ?_⟩
  · cases q : H b with
    | none => rfl
    | some o =>
      obtain ⟨ob, r⟩ := (I.hok b o q).there
      rw [hb] at r; cases r
  · obtain ⟨m, ⟨o, _, _, r, _⟩, _⟩ := I.loc
    rw [← z, hb] at r; cases r
  · obtain ⟨_, o, r, _⟩ := I.funs.mem z
    rw [hb] at r; cases r
  · cases q : X.s₀.heap.get? b with
    | none => rfl
    | some o =>
      obtain ⟨o', r⟩ := I.base.there b o q (by rw [hx]; simp)
      rw [hb] at r; cases r
  · obtain ⟨v, o, r, _⟩ := I.cell x c q
    rw [z, hb] at r; cases r
  · obtain ⟨r, _⟩ := I.pin p hp
    rw [z, hb] at r; cases r
/-- a note leaves the frame's state -/
theorem Inv.noted {lo : Addr → Prop} {h' : Heap} (I : Inv X pins σ H s) (n : Noted (frs X.stack) e lo s.heap h') (hlo : ∀ b, (b = e ∨ lo b) → XFp X pins H b ∨ s.heap.get? b = none) : Inv X pins σ H { s with heap := h' } := by
  have off : ∀ b o, s.heap.get? b = some o → (¬ XFp X pins H b) → b ≠ e ∧ ¬ lo b := fun b o q nx =>
    ⟨fun z => (hlo b (.inl z)).elim nx fun r => (by rw [r] at q; cases q), fun z => (hlo b (.inr z)).elim nx fun r => (by rw [r] at q; cases q)⟩
  have any : ∀ b o, s.heap.get? b = some o → (¬ XFp X pins H b) → ∃ sl, h'.get? b = some { o with slots := sl } := fun b o q nx => by
    obtain ⟨n1, n2⟩ := off b o q nx
    by_cases hb : b ∈ frs X.stack
    · exact n.slot b o q hb n1 n2
    · exact ⟨o.slots, n.keep b o q hb n1 n2⟩
  have s0 : ∀ b o, X.s₀.heap.get? b = some o → ¬ XFp X pins H b := fun b o q x => by rw [x.2.2.2.1] at q; cases q
  have neL : ∀ b o, X.s₀.heap.get? b = some o → b ≠ X.env.locals := fun b o q => Nat.ne_of_lt (Nat.lt_of_lt_of_le (Heap.lt_size q) I.ok.above)
  have nst : ∀ b, b ≠ X.env.locals → b ∉ X.fs → b ∉ frs X.stack := fun b n1 n2 z => (List.mem_cons.mp (I.stkSub b z)).elim n1 n2
  have trk : ∀ b o, H b = some o → ¬ XFp X pins H b := fun b o q x => by rw [x.1] at q; cases q
  have trkf : ∀ b o, H b = some o → b ∉ frs X.stack := fun b o q z => by rw [I.stkFree b z] at q; cases q
  have cl : ∀ x c, X.env.cells.lookup x = some c → ∀ v, s.heap.IsCell c v → h'.IsCell c v := fun x c q v ⟨o, ho, hd⟩ => by
    obtain ⟨sl, r⟩ := any c o ho fun z => z.2.2.2.2.1 x c q rfl
    exact ⟨_, r, hd⟩
  refine ⟨I.ok, I.os, I.bare, ⟨fun b o q nn hb hx => ?_, fun b o q nn hb hx => ?_, I.base.free, fun b o q hx => ?_, I.base.tups, I.base.frzs, I.base.tbls⟩, ?_, fun x c q => ?_, I.free, I.freeC, fun p hp => ?_, fun a o q => ?_, I.len⟩
  · have q1 := I.base.keep b o q nn hb hx
    obtain ⟨n1, n2⟩ := off b o q1 (s0 b o q)
    exact n.keep b o q1 (nst b (neL b o q) hb) n1 n2
  · obtain ⟨sl, q1⟩ := I.base.slot b o q nn hb hx
    obtain ⟨sl2, q2⟩ := any b _ q1 (s0 b o q)
    exact ⟨sl2, q2⟩
  · obtain ⟨o1, q1⟩ := I.base.there b o q hx
    exact n.there b o1 q1
  · obtain ⟨m, ⟨ob, es, ep, ho, r⟩, hl⟩ := I.loc
    obtain ⟨sl, q1⟩ := any _ ob ho fun z => z.2.1 rfl
    refine ⟨m, ⟨_, es, ep, q1, r⟩, fun i x v e1 e2 e3 => ?_⟩
    obtain ⟨u, ru, l⟩ := hl i x v e1 e2 e3
    refine ⟨u, ru, ?_⟩
    rcases l with l | ⟨k, c, hc, z⟩
    · exact .inl l
    · exact .inr ⟨k, c, hc, cl x c hc _ z⟩
  · obtain ⟨v, z⟩ := I.cell x c q
    exact ⟨v, cl x c q v z⟩
  · obtain ⟨q, nn, n1, n2, d⟩ := I.pin p hp
    obtain ⟨m1, m2⟩ := off p.1 p.2 q fun z => z.2.2.2.2.2 p hp rfl
    exact ⟨n.keep p.1 p.2 q (nst p.1 n1 n2) m1 m2, nn, n1, n2, d⟩
  · refine (I.hok a o q).stay (fun b u hb r => ?_) (fun _ z => z) fun _ _ z => z
    rcases hb with rfl | hb
    · obtain ⟨m1, m2⟩ := off b u r (trk b o q)
      exact n.keep b u r (trkf b o q) m1 m2
    · obtain ⟨m1, m2⟩ := off b u r (trk b _ hb)
      exact n.keep b u r (trkf b _ hb) m1 m2

/-- how an exception lies behind a call -/
def CX1 (P : Program) (w : World) : CXT := fun outer H s E ev s' => ∃ (e : Addr) (cls : Value) (dx : Option Addr) (H' : Hp), ev = .ref e ∧ s'.os = s.os ∧ AllBare s'.gens ∧ Un (frs outer) [] H H' s.heap s'.heap ∧ HOk P w H' s'.heap ∧
  s.heap.get? e = none ∧ H' e = none ∧ XObj s'.heap e cls dx (fun T => s.heap.get? T = none ∧ H' T = none) (some .none) ∧ E cls dx H'
/-- exceptions that fulfil E may come up in this body, at a state of the frame -/
def Rz (X : Cx) (E : St → XK) : Prop := ∀ (pins : List (Addr × Obj)) (σ : St) (H : Hp) (s : Shared) (e : Addr) (cls : Value) (dx : Option Addr) (fl : Option Value), (fl = none ∨ fl = some .none) → Inv X pins σ H s → XFp X pins H e →
  XObj s.heap e cls dx (XFp X pins H) fl → E σ cls dx H → X.xe (.ref e) s
theorem XObj.imp {h : Heap} {e : Addr} {cls : Value} {dx : Option Addr} {lo lo' : Addr → Prop} {f : Option Value} (x : XObj h e cls dx lo f) (k : ∀ T, (∃ o, h.get? T = some o) → lo T → lo' T) : XObj h e cls dx lo' f := by
  cases f with
  | none => exact x
  | some f =>
    obtain ⟨oe, vs, T, oT, ts, he, hc, hdx, hd, h1, hT, nT, hgT, r⟩ := x
    exact ⟨oe, vs, T, oT, ts, he, hc, hdx, hd, h1, k T ⟨oT, hgT⟩ hT, nT, hgT, r⟩
/-- a callee's exception reaches the body's wish -/
theorem passes1 {E : St → XK} {σ : St} (hx : X.ex = []) (R : Rz X E) {pins : List (Addr × Obj)} {H : Hp} {s s' : Shared} {ev : Value} (I : Inv X pins σ H s) (c : CX1 X.prog X.w X.stack H s (E σ) ev s') : X.xe ev s' := by
  obtain ⟨e, cls, dx, H', rfl, ho, hg, u, hok, ne, he, x, q⟩ := c
  have I' : Inv X pins σ H' s' := I.call' (ch := []) ho u hok hg (fun b hb => by cases hb)
  have fp : ∀ T, s.heap.get? T = none → H' T = none → XFp X pins H' T := fun T h1 h2 => by
    obtain ⟨_, a2, a3, a4, a5, a6⟩ := I.xfp hx h1
    exact ⟨h2, a2, a3, a4, a5, a6⟩
  exact R pins σ H' s' e cls dx _ (.inr rfl) I' (fp e ne he) (x.imp fun T _ z => fp T z.1 z.2) q
/-- .. leaves a def's body -/
theorem rz_leave {P : Program} {w : World} {K : PySem.W.Frag} {mg : Str → Option Value} {base : Heap} {N : List Str} {qual : Str} {scope : Scope} {f : Addr} {cd : Value} {A : Around} {outer : List Env} {s : Shared} {H : Hp} {E : XK} :
    Rz (cxOf (CX1 P w) P w K mg base N qual scope f cd A outer s H E) (fun _ => E) := by
  intro pins σ H1 s1 e cls dx fl hfl I fe x q
  show wpAny (model P w) _ (leaving _ (.ref e)) _ _ s1
  unfold leaving
  have lo1 : ∀ b, (b = e ∨ (XFp (cxOf (CX1 P w) P w K mg base N qual scope f cd A outer s H E) pins H1 b ∨ s1.heap.get? b = none)) → XFp (cxOf (CX1 P w) P w K mg base N qual scope f cd A outer s H E) pins H1 b ∨ s1.heap.get? b = none := fun b z => z.elim (fun z => .inl (by rw [z]; exact fe)) fun z => z
  have stk : (cxOf (CX1 P w) P w K mg base N qual scope f cd A outer s H E).A.frames = some ((cxOf (CX1 P w) P w K mg base N qual scope f cd A outer s H E).env :: outer) := I.ok.frames
  refine wpAny_bind (xnote (base := base) (lo := fun T => XFp (cxOf (CX1 P w) P w K mg base N qual scope f cd A outer s H E) pins H1 T ∨ s1.heap.get? T = none) hfl stk I.stack rfl (x.imp fun T _ z => .inl z) (fun T z => .inr z) fun h1 n1 x1 => ?_)
  refine xland (fr := frs ((cxOf (CX1 P w) P w K mg base N qual scope f cd A outer s H E).env :: outer)) x1 fun h2 n2 x2 => ?_
  have I2 : Inv (cxOf (CX1 P w) P w K mg base N qual scope f cd A outer s H E) pins σ H1 { s1 with heap := h2 } := I.noted (n1.trans n2) lo1
  refine ⟨e, cls, dx, H1, rfl, I2.os, I2.bare, I2.base, I2.hok, fe.2.2.2.1, fe.1, x2.imp fun T _ z => ?_, q⟩
  rcases z with z | z
  · exact ⟨z.2.2.2.1, z.1⟩
  · have y := I.xfp rfl z
    exact ⟨y.2.2.2.1, y.1⟩
end
end L2
set_option Elab.async false
set_option linter.all false
set_option maxRecDepth 100000
set_option maxHeartbeats 4000000
namespace L2
open PySem PySem.Spec PyProof.Rows

/-! ### calls that may raise -/
def FnAtX (P : Program) (w : World) (K : PySem.W.Frag) (mg : Str → Option Value) (base : Heap) (k : Nat) (x : Str) (ps : List Str) (sp : Sp) : Prop :=
  ∃ f fd, FnOk P w K mg base (CX1 P w) k f fd ps sp ∧ mg x = some (.ref f) ∧ PySem.W.keepIn K (.ref f) = true ∧ Binds K fd ps []
def tCallX (sp : Sp) (E : St → XK) (t : TA) : TE := fun σ H Q => t σ H fun vs H1 => sp vs H1 Q (E σ)
section
variable {X : Cx} {k : Nat} {x : Str} {ps : List Str} {sp : Sp} {e : Expr} {es : List Expr} {t : TA} {p pos : Pos} {E : St → XK}
theorem pe_fnX (F : FnAtX X.prog X.w X.K X.mg X.base k x ps sp) (hx : X.ex = []) (R : Rz X E) (hr : Room k X.A) (hg : Gl X x) (ha : PA X (e :: es) t) (hd : (x == ("__debug__" : Str)) = false := by decide)
    (he : starEach (e :: es) X.env = (false, eval e X.env) :: starEach es X.env := by rfl) (hpl : (backTo pos (starEach es X.env)).any (·.1) = false := by rfl) :
    PE X (.Call (.Name x p) (e :: es) [] pos) (tCallX sp E t) := by
  obtain ⟨f, fd, G, hm, hk, hb⟩ := F
  intro pins s σ H Q I h
  refine wpAny_Call_Name_kw (ld_glob I hg hm ?_ hd)
  refine PySem.W.callWith_K (h₀ := X.base) I.ok.mod.kin hk (thn (ha pos pins s σ H _ I h) fun us s1 ⟨vs, H1, I1, r, q⟩ => ⟨I1.kIn, ?_⟩) he hpl
  have hlen : us.length = ps.length := by rw [← r.length]; exact G.len _ _ _ _ q
  have hbd := hb s1 us I1.kIn (by rw [List.append_nil]; exact hlen)
  rw [List.append_nil] at hbd
  refine wpAny_call (codeAny_mono (G.run X.A X.stack s1 H1 ⟨us, []⟩ us vs Q (E σ) hr I1.env0 hbd r q) fun res s' hq => ?_)
  match res, hq with
  | .error ev, hq => exact passes1 hx R I1 hq
  | .ok (.ret u), hq => exact I1.after hq
end
section
variable {P : Program} {w : World} {K : PySem.W.Frag} {mg : Str → Option Value} {base : Heap}
/-- a def whose exceptions leave it -/
theorem Fun.okX {x qual : Str} {st : Stmt} {f : Addr} {fd : FuncData} {N ps : List Str} {k : Nat} {sp : Sp} (F : Fun K x qual st f fd) (S : FnScope N ps (defScope st)) (len : ∀ vs H Q E, sp vs H Q E → vs.length = ps.length)
    (hbody : ∀ (cdv : Value) (A : Around) (outer : List Env) (s : Shared) (H : Hp) (vs : List V) (Q : VK) (E : XK), Room k (A.deeper (envOfC qual (defScope st) s.heap.objs.size f cdv)) → sp vs H Q E →
      Rz (cxOf (CX1 P w) P w K mg base N qual (defScope st) f cdv A outer s H E) (fun _ => E) →
      ∃ t, PSs (cxOf (CX1 P w) P w K mg base N qual (defScope st) f cdv A outer s H E) (defBody st) t ∧ t { nx := fun _ H' => Q .non H', rt := Q } (start N vs) H) : FnOk P w K mg base (CX1 P w) (k + 1) f fd ps sp := by
  obtain ⟨oc, od, kV, doc, pm, an, cdv, ct, osl, rfl, lk, hcd⟩ := F.ex
  exact fn_of lk hcd S len fun A outer s H vs Q E hr hsp => hbody cdv A outer s H vs Q E hr hsp rz_leave
end

/-! ### raise C(..), C an own class without an __init__ -/
theorem exc_obj {K : PySem.W.Frag} {h : Heap} {C : Addr} {bmB : List Value} {newId : String} (X : K.In h) (q : PySem.W.excIn K C bmB newId = true) :
    ∃ bm N nm qn bs hdct sn sub ab col dd k0 k1 k2 k3 k5 mN, h.get? C = some (excClassObj nm qn C N bs bm hdct sn sub ab col dd k0 k1 k2 k3 k5 newId) ∧ h.Ns N mN ∧ mN "__init__" = none ∧ OwnTail h bmB bm := by
  unfold PySem.W.excIn at q
  split at q
  · rename_i d0 c0 s0 lk
    split at q
    · rename_i C1 tl a0 a1 a2 a3 nn a5 em es
      simp only [Bool.and_eq_true, beq_iff_eq, Bool.not_eq_true'] at q
      obtain ⟨⟨⟨⟨⟨e1, e2⟩, e3⟩, e4⟩, e5⟩, e6⟩ := q
      subst e1 e2
      obtain ⟨f1, f2, f3, f4, f5, f6, f7, f8, f9, f10, f11⟩ := c0
      dsimp only at em e3 e5 e6
      subst em e3
      have ez : s0 = #[a0, a1, a2, a3, some (.builtin nn), a5] := by
        obtain ⟨l⟩ := s0
        simp only at es
        rw [es]
      subst ez
      exact ⟨tl, f4, _, _, _, _, _, _, _, _, _, _, _, _, _, _, _, X _ _ lk, .of_isNs (PySem.W.isNs_of_in X e5), PySem.W.nsMap_none_of_in X e5 e6, PySem.W.tail_of_in X e4⟩
    · cases q
  · cases q
def tRaise (cls : Value) (E : St → XK) (ta : TA) : TS := fun _ σ H => ta σ H fun vs H1 => vs.length ≤ sizeLine ∧ E σ cls none H1
section
variable {X : Cx} {E : St → XK} {x : Str} {C : Addr} {B newId initId : String} {bmB : List Value} {e0 : Expr} {rest : List Expr} {ta : TA} {np cpos pos : Pos}
theorem ps_raise (FB : ExcBaseFacts B newId initId bmB) (q : PySem.W.excIn X.K C bmB newId = true) (hm : X.mg x = some (.ref C)) (hg : Gl X x) (hc : X.calm = true) (hx : X.ex = []) (R : Rz X E) (ha : PA X (e0 :: rest) ta)
    (he : starEach (e0 :: rest) X.env = (false, eval e0 X.env) :: starEach rest X.env := by rfl) (hplain : (backTo cpos (starEach rest X.env)).any (·.1) = false := by rfl) (hd : (x == ("__debug__" : Str)) = false := by decide) :
    PS X (.Raise (some (.Call (.Name x np) (e0 :: rest) [] cpos)) none pos) (tRaise (.ref C) E ta) := by
  intro pins s σ H D I h
  obtain ⟨bm, N, nm, qn, bs, hdct, sn, sub, ab, col, dd, k0, k1, k2, k3, k5, mN, hC, hN, hni, T⟩ := exc_obj I.ok.mod.kin q
  refine wpAny_Raise_call_subT (k5 := k5) (k3 := k3) (k2 := k2) (k1 := k1) (k0 := k0) (dd := dd) (col := col) (ab := ab) (sub := sub) (sn := sn) (hdct := hdct) (bs := bs) (q := qn) (nm := nm)
    (C := C) (N := N) (bm := bm) (mN := mN) FB (T.hasType FB.hasBase) (I.ok.hd hc) (by rw [he]; show (false || (backTo cpos (starEach rest X.env)).any (·.1)) = false; rw [hplain]; rfl) hni (ld_glob I hg hm ⟨rfl, ?_⟩ hd)
  have h2 := ha cpos pins s σ H _ I h
  rw [he] at h2 ⊢
  refine Calls.evalArgs_plain (thn h2 fun us s1 ⟨vs, H1, I1, r, hl, hE⟩ => ⟨rfl, by rw [← r.length]; exact hl, I1.bk _ _ hC, hN.keeps I1.bk, T.keeps I1.bk, fun h' e mk => ?_⟩)
  obtain ⟨t, ht, _, _⟩ := mk.there
  have I2 : Inv X pins σ H1 { s1 with heap := h' } := I1.kept (t' := s1.toks) mk.keeps
  exact R pins σ H1 _ e (.ref C) none none (.inl rfl) I2 (I1.xfp hx mk.new) ⟨_, _, ht, rfl, rfl, rfl, rfl⟩ hE
end

/-! ### try: .. except C as n: .. -/
/-- the context within the handler -/
def cxHand (X : Cx) (e : Addr) : Cx := { X with A := X.A.mark (some (.ref e)), calm := false, xe := fun _ _ => False }
/-- the context of the tried suite -/
def cxTry (X : Cx) (pins : List (Addr × Obj)) (xe : Value → Shared → Prop) : Cx := { X with pn := X.pn ++ pins, xe := xe }
section
variable {X : Cx} {pins : List (Addr × Obj)} {σ : St} {H : Hp} {s : Shared}
theorem Inv.toTry (I : Inv X pins σ H s) (xe : Value → Shared → Prop) : Inv (cxTry X pins xe) [] σ H s :=
  ⟨⟨I.ok.mod, I.ok.kind, I.ok.glob, I.ok.blt, I.ok.above, I.ok.inj, I.ok.has, I.ok.cab, I.ok.hd, I.ok.frames, I.ok.stk, I.ok.exf, I.ok.bs, I.ok.bsz, I.ok.noex, I.ok.exfs, I.ok.funs, I.ok.frf⟩, I.os, I.bare, I.base, I.loc, I.cell, I.free, I.freeC,
    fun p hp => I.pin p (by rw [List.append_nil] at hp; exact hp), I.hok, I.len⟩
theorem Inv.ofTry {xe : Value → Shared → Prop} {pins' : List (Addr × Obj)} (I : Inv (cxTry X pins xe) pins' σ H s) : Inv X pins σ H s :=
  ⟨⟨I.ok.mod, I.ok.kind, I.ok.glob, I.ok.blt, I.ok.above, I.ok.inj, I.ok.has, I.ok.cab, I.ok.hd, I.ok.frames, I.ok.stk, I.ok.exf, I.ok.bs, I.ok.bsz, I.ok.noex, I.ok.exfs, I.ok.funs, I.ok.frf⟩, I.os, I.bare, I.base, I.loc, I.cell, I.free, I.freeC,
    fun p hp => I.pin p (List.mem_append_left _ hp), I.hok, I.len⟩
theorem Inv.toHand (I : Inv X pins σ H s) (e : Addr) : Inv (cxHand X e) pins σ H s :=
  ⟨⟨I.ok.mod, I.ok.kind, I.ok.glob, I.ok.blt, I.ok.above, I.ok.inj, I.ok.has, I.ok.cab, fun z => (by cases z), I.ok.frames, I.ok.stk, I.ok.exf, I.ok.bs, I.ok.bsz, I.ok.noex, I.ok.exfs, I.ok.funs, I.ok.frf⟩, I.os, I.bare, I.base, I.loc, I.cell, I.free, I.freeC,
    I.pin, I.hok, I.len⟩
theorem Inv.ofHand {e : Addr} (I : Inv (cxHand X e) pins σ H s) (hd : X.calm = true → X.A.handled = none) : Inv X pins σ H s :=
  ⟨⟨I.ok.mod, I.ok.kind, I.ok.glob, I.ok.blt, I.ok.above, I.ok.inj, I.ok.has, I.ok.cab, hd, I.ok.frames, I.ok.stk, I.ok.exf, I.ok.bs, I.ok.bsz, I.ok.noex, I.ok.exfs, I.ok.funs, I.ok.frf⟩, I.os, I.bare, I.base, I.loc, I.cell, I.free, I.freeC,
    I.pin, I.hok, I.len⟩
end

section
variable {M : Model} {A : Around} {Er : Value → Shared → Prop} {s : Shared} {K : PySem.W.Frag} {e C D : Addr}
/-- does the exception match an own class? -/
theorem matches_own {oe : Obj} {b : Bool} {Q : Bool → Shared → Prop} (X : K.In s.heap) (he : s.heap.get? e = some oe) (hc : oe.cls = .ref C) (hD : (PySem.W.clsIn K D).isSome = true) (hty : PySem.W.typeIn K (.ref D) = some (.type "type"))
    (hB : PySem.W.subIn K (.ref D) (.type "BaseException") = some true) (hs : PySem.W.subIn K (.ref C) (.ref D) = some b) (hq : Q b s) : wpAny M A (excMatches (.ref e) (.ref D)) Q Er s := by
  obtain ⟨hh, g, d, t, os⟩ := s
  have L1 : PySem.W.Looks M hh (typeOf (.ref D)) (.type "type") := PySem.W.looks_typeIn X hty
  have L2 : PySem.W.Looks M hh (isSubtype (.ref D) (.type "BaseException")) true := PySem.W.looks_subIn X hB
  have L3 : PySem.W.Looks M hh (isSubtype (.ref C) (.ref D)) b := PySem.W.looks_subIn X hs
  have L4 : PySem.W.Looks M hh (isType (.ref D)) true := by
    unfold PySem.W.clsIn at hD
    split at hD
    · rename_i c' d' cd' sl' ho
      intro A' Q' E' s' k q
      unfold isType loadHead
      exact wpAny_bind (wpAny_loadPart (k _ _ (X _ _ ho)) (wpAny_pure q))
    · cases hD
  have f := tc_notTuple
  unfold excMatches isExcClass isInstance
  refine wpAny_bind (wpAny_bind (L1.at ?_))
  refine wpAny_of_eq f ?_
  rw [if_neg (by decide)]
  refine wpAny_bind (wpAny_pure ?_)
  simp only [List.forIn_cons, List.forIn_nil]
  refine wpAny_bind (wpAny_bind (wpAny_bind (wpAny_bind (L4.at ?_))))
  rw [if_pos rfl]
  refine L2.at ?_
  simp only [Bool.not_true, Bool.false_eq_true, if_false]
  refine wpAny_pure (wpAny_pure ?_)
  have L0 : PySem.W.Looks M hh (typeOf (.ref e)) (.ref C) := by
    intro A' Q' E' s' k q
    unfold typeOf
    refine wpAny_bind (wpAny_loadPart (k _ _ he) ?_)
    rw [hc]
    exact wpAny_pure q
  refine wpAny_bind (L0.at ?_)
  refine wpAny_bind (wpAny_bind (wpAny_bind (L3.at ?_)))
  cases b with
  | true => exact wpAny_pure (wpAny_pure (wpAny_pure hq))
  | false => exact wpAny_pure (wpAny_pure (wpAny_pure hq))
end
end L2
set_option Elab.async false
set_option linter.all false
set_option maxRecDepth 100000
set_option maxHeartbeats 4000000
namespace L2
open PySem PySem.Spec PyProof.Rows
section
variable {X : Cx} {pins : List (Addr × Obj)} {σ : St} {H : Hp} {s : Shared}
end

/-- what of the text a class must have to be named by an except -/
structure XHd (K : PySem.W.Frag) (D : Addr) : Prop where
  cl : (PySem.W.clsIn K D).isSome = true
  ty : PySem.W.typeIn K (.ref D) = some (.type "type")
  bs : PySem.W.subIn K (.ref D) (.type "BaseException") = some true
section
variable {X : Cx} {body suite : List Stmt} {b0 : Stmt} {n cn : Str} {i : Nat} {Dc : Addr} {tb : (St → XK) → TS} {th : TS} {cp hpos pos : Pos}
end

/-! ### isinstance of a caught exception -/
section
variable {X : Cx} {K : PySem.W.Frag}
end
end L2
set_option Elab.async false
set_option linter.all false
set_option maxRecDepth 100000
set_option maxHeartbeats 4000000
namespace L2
open PySem PySem.Spec PyProof.Rows
section
variable {X : Cx} {K : PySem.W.Frag}
end
/-- an exception's class against another one -/
structure XPair (K : PySem.W.Frag) (C D : Addr) (b : Bool) : Prop where
  ne : (Value.ref C == Value.ref D) = false
  sub : PySem.W.subIn K (.ref C) (.ref D) = some b
end L2
namespace L2
open PySem
/-- a class of the text's that is raised; another one beside it -/
structure Xr (K : PySem.W.Frag) (mg : Str → Option Value) (C : Addr) (nm : Str) : Prop where
  bd : mg nm = some (.ref C)
  hd : XHd K C
  xc : PySem.W.XCls K C
  ex : PySem.W.excIn K C [.type "ValueError", .type "Exception", .type "BaseException", .type "object"] "ValueError.__new__" = true
  ve : PySem.W.subIn K (.ref C) (.type "ValueError") = some true
end L2
set_option Elab.async false
set_option linter.all false
set_option maxRecDepth 100000
set_option maxHeartbeats 4000000
namespace L2
open PySem PySem.Spec PyProof.Rows

/-! ### several objects of an iterator turn -/
section
variable {X : Cx} {pins : List (Addr × Obj)} {σ : St} {H : Hp} {s : Shared} {h' : Heap}
theorem Inv.turnedL {t' : Nat} {fp : List Addr} (I : Inv X pins σ H s) (hf : ∀ b ∈ fp, FpOk X pins H b) (k : ∀ b o, b ∉ fp → s.heap.get? b = some o → h'.get? b = some o) : Inv X pins σ H { s with heap := h', toks := t' } := by
  have nit : ∀ b u, H b = some u → b ∉ fp := fun b u e z => by rw [(hf b z).1] at e; cases e
  refine I.step (g' := s.gens) (d' := s.drawn) (ch := fp) (fun b hb => ?_) (fun b o _ _ hc e _ => k b o hc e) (fun b o _ _ hc e _ => ⟨o.slots, k b o hc e⟩) (fun _ _ _ _ n => n)
    (fun b o hc e => ⟨o, k b o hc e⟩) (fun _ _ e => e) (fun _ _ _ e => e) (fun b ps e => ⟨#[], by rw [e]; simp⟩) (fun m hm => ?_) (fun b u e => ?_) I.bare
  · obtain ⟨f0, f1, f2, f3, f4, f5⟩ := hf b hb
    exact ⟨f3, f1, f4, f5⟩
  · obtain ⟨o, es, ep, ho, r⟩ := hm
    exact ⟨o, es, ep, k _ o (fun z => (hf _ z).2.1 rfl) ho, r⟩
  · refine (I.hok b u e).stay (fun c v hc q => k c v ?_ q) (fun _ q => q) fun _ _ q => q
    rcases hc with z | z
    · rw [z]; exact nit b u e
    · exact nit c _ z
theorem FpOk.upd {b p : Addr} {o : HO} (h : FpOk X pins H b) (n : b ≠ p) : FpOk X pins (upd H p o) b := by
  obtain ⟨f0, r⟩ := h
  exact ⟨by rw [upd_ne n]; exact f0, r⟩
theorem get_push {h : Heap} {o u : Obj} {b : Addr} (ho : o.isFreed = false) (e : (h.push o).get? b = some u) : (b = h.objs.size ∧ u = o) ∨ h.get? b = some u := by
  by_cases hb : b = h.objs.size
  · subst hb
    rw [Heap.get?_push_size _ ho] at e
    exact .inl ⟨rfl, (Option.some.inj e).symm⟩
  · refine .inr ?_
    have lt := Heap.lt_size e
    have lt2 : b < h.objs.size := by
      have : (h.push o).objs.size = h.objs.size + 1 := by simp [Heap.push]
      rw [this] at lt
      exact Nat.lt_of_le_of_ne (Nat.le_of_lt_succ lt) hb
    have : (h.push o).get? b = h.get? b := by
      simp only [Heap.get?, Heap.push]
      rw [Array.getElem?_push_lt lt2, Array.getElem?_eq_getElem lt2]
    rw [← this]
    exact e
end

/-! ### enumerate -/
section
variable {X : Cx}
end

/-! ### zip of two lists -/
def Itz (K : PySem.W.Frag) (l1 l2 : Addr) : It :=
  ⟨fun i H => ∃ xs ys x y, SqL K H l1 xs ∧ SqL K H l2 ys ∧ xs[i]? = some x ∧ ys[i]? = some y,
   fun i H x H' => ∃ (p : Addr) (y z : V), x = .ref p ∧ H p = none ∧ (∀ xs, SqL K H l1 xs → xs[i]? = some y) ∧ (∀ ys, SqL K H l2 ys → ys[i]? = some z) ∧ H' = upd H p (.tup [y, z]),
   fun i H => ∃ xs ys, SqL K H l1 xs ∧ SqL K H l2 ys ∧ (xs.length ≤ i ∨ ys.length ≤ i)⟩
theorem turn_zip {P : Program} {w : World} {K : PySem.W.Frag} {elts : List Expr} {x1 : Nat} {pos : Pos} (z TI TO i1 i2 l1 l2 : Addr) (ap : ZipApart z TI TO i1 i2 l1 l2) : Turn P w K (.Tuple elts x1 pos) (Itz K l1 l2) [z, TI, TO, i1, i2] z
    (fun i h => IsZip h z TI TO .none ∧ IsPair h TI (.ref i1) (.ref i2) ∧ (∃ a b, IsPair h TO a b) ∧ h.IsListIter i1 l1 i ∧ h.IsListIter i2 l2 i) where
  mem := by simp
  obj := fun i h st b hb => by
    obtain ⟨hz, hTI, ⟨a, c, hTO⟩, ⟨o1, h1, c1, d1⟩, ⟨o2, h2, c2, d2⟩⟩ := st
    have hb' : b = z ∨ b = TI ∨ b = TO ∨ b = i1 ∨ b = i2 := by simpa using hb
    rcases hb' with rfl | rfl | rfl | rfl | rfl
    · exact ⟨_, hz, fun v z => by cases z⟩
    · exact ⟨_, hTI, fun v z => by cases z⟩
    · exact ⟨_, hTO, fun v z => by cases z⟩
    · exact ⟨_, h1, fun v z => by rw [d1] at z; cases z⟩
    · exact ⟨_, h2, fun v z => by rw [d2] at z; cases z⟩
  keep := fun i h h' st k => by
    obtain ⟨hz, hTI, ⟨a, c, hTO⟩, ⟨o1, h1, c1, d1⟩, ⟨o2, h2, c2, d2⟩⟩ := st
    exact ⟨k z (by simp) _ hz, k TI (by simp) _ hTI, ⟨a, c, k TO (by simp) _ hTO⟩, ⟨o1, k i1 (by simp) _ h1, c1, d1⟩, ⟨o2, k i2 (by simp) _ h2, c2, d2⟩⟩
  item := by
    intro X hP hw hK hc i pins s σ H E I hf st hg
    subst hP hw hK
    obtain ⟨xs, ys, x, y, hq1, hq2, hx, hy⟩ := hg
    obtain ⟨its1, rv1, p1, hz1⟩ := I.list hq1
    obtain ⟨its2, rv2, p2, hz2⟩ := I.list hq2
    obtain ⟨u1, hu1, ru1⟩ := rv1.get hx
    obtain ⟨u2, hu2, ru2⟩ := rv2.get hy
    obtain ⟨hz, hTI, ⟨a, c, hTO⟩, hi1, hi2⟩ := st
    have zlt := Heap.lt_size hz
    have TIlt := Heap.lt_size hTI
    have TOlt := Heap.lt_size hTO
    have i1lt : i1 < s.heap.objs.size := by obtain ⟨o, ho, _⟩ := id hi1; exact Heap.lt_size ho
    have i2lt : i2 < s.heap.objs.size := by obtain ⟨o, ho, _⟩ := id hi2; exact Heap.lt_size ho
    refine wpAny_pyNext_zip_item ap hz hTI hTO hi1 hi2 p1.isList p2.isList (x := u1) (y := u2) (by simpa using hu1) (by simpa using hu2) fun h' hz' hTO' hi1' hi2' hnew hsz hk => ?_
    refine ⟨_, rfl, ?_⟩
    refine wpAny_letOwnedTupleGo_zip hz' fun h2 hz2' sb => ?_
    have hfr : H s.heap.objs.size = none := I.hok.fresh (Nat.le_refl _)
    have I0 : Inv X pins σ (upd H s.heap.objs.size (.tup [x, y])) { s with heap := s.heap.push { cls := .type "tuple", data := .seq #[u1, u2] } } :=
      I.laid (t' := s.toks) (fun b u e => Heap.get?_push_of_some _ e) (Nat.le_refl _) ⟨by show 2 ≤ sizeLine; decide, [u1, u2], .cons ru1 (.cons ru2 .nil), ⟨_, Heap.get?_push_size _ rfl, rfl, _, rfl⟩⟩
    have hf0 : ∀ b ∈ [z, TI, TO, i1, i2], FpOk X pins (upd H s.heap.objs.size (.tup [x, y])) b := fun b hb => by
      refine (hf b hb).upd ?_
      have hb' : b = z ∨ b = TI ∨ b = TO ∨ b = i1 ∨ b = i2 := by simpa using hb
      rcases hb' with rfl | rfl | rfl | rfl | rfl
      · exact Nat.ne_of_lt zlt
      · exact Nat.ne_of_lt TIlt
      · exact Nat.ne_of_lt TOlt
      · exact Nat.ne_of_lt i1lt
      · exact Nat.ne_of_lt i2lt
    have I1 := I0.turnedL (h' := h2) (t' := s.toks) hf0 (fun b o hb eb => by
      have b1 : b ≠ z := fun e => hb (by simp [e])
      have b2 : b ≠ TO := fun e => hb (by simp [e])
      have b3 : b ≠ i1 := fun e => hb (by simp [e])
      have b4 : b ≠ i2 := fun e => hb (by simp [e])
      rw [sb.2 b b1]
      rcases get_push rfl eb with ⟨rfl, rfl⟩ | eb
      · exact hnew
      · exact hk b o b1 b2 b3 b4 eb)
    refine ⟨.ref s.heap.objs.size, _, I1, rfl, ⟨s.heap.objs.size, x, y, rfl, hfr, fun ys hy => by rw [I.list_inj hy hq1]; exact hx, fun ys' hy' => by rw [I.list_inj hy' hq2]; exact hy, rfl⟩, ?_, fun b hb => (hf0 b hb).1⟩
    obtain ⟨o1, ho1, c1, d1⟩ := hi1'
    obtain ⟨o2, ho2, c2, d2⟩ := hi2'
    exact ⟨hz2', (sb.2 TI ap.TIz).trans (hk TI _ ap.TIz ap.TITO ap.TIi1 ap.TIi2 hTI), ⟨_, _, (sb.2 TO ap.TOz).trans hTO'⟩, ⟨o1, (sb.2 i1 ap.i1z).trans ho1, c1, d1⟩, ⟨o2, (sb.2 i2 ap.i2z).trans ho2, c2, d2⟩⟩
  done := by
    intro X hP hw hK hc i pins s σ H E I hf st hg
    subst hP hw hK
    obtain ⟨xs, ys, hq1, hq2, hx⟩ := hg
    obtain ⟨its1, rv1, p1, hz1⟩ := I.list hq1
    obtain ⟨its2, rv2, p2, hz2⟩ := I.list hq2
    obtain ⟨hz, hTI, ⟨a, c, hTO⟩, hi1, hi2⟩ := st
    have hl1 := rv1.length
    have hl2 := rv2.length
    refine wpAny_pyNext_zip_end (I.ok.hd hc) ap hz hTI hTO hi1 hi2 p1.isList p2.isList ?_ fun h' eb => ⟨rfl, I.turnedL (t' := s.toks) hf (fun b o hb e => eb b o (fun z => hb (by simp [z])) (fun z => hb (by simp [z])) (fun z => hb (by simp [z])) (fun z => hb (by simp [z])) e)⟩
    rcases hx with hx | hx
    · exact .inl (by simp; omega)
    · exact .inr (by simp; omega)
  self := fun _ _ _ _ _ st h => wpAny_pyIter_zip st.1 h
section
variable {X : Cx}
end
end L2
set_option Elab.async false
set_option linter.all false
set_option maxRecDepth 100000
set_option maxHeartbeats 4000000
namespace L2
open PySem PySem.Spec PyProof.Rows
section
variable {K : PySem.W.Frag} {a l1 l2 D : Addr} {xs ys : List V} {g : TG} {tc : TT} {te : TE} {Q : VK} {σ0 : St} {H1 : Hp}
theorem comp_zip {n : Nat} (hn1 : xs.length = n) (hn2 : ys.length = n) (Pv : Nat → St → Hp → Prop) (h0 : Pv 0 σ0 (upd H1 D (.lst []))) (hl : ∀ i σ H, i ≤ n → Pv i σ H → SqL K H l1 xs ∧ SqL K H l2 ys)
    (hs : ∀ i x y σ H p, xs[i]? = some x → ys[i]? = some y → Pv i σ H → H p = none → g (.ref p) σ (upd H p (.tup [x, y])) fun σ2 H2 => tc σ2 H2 fun b H3 =>
      if b = true then te σ2 H3 fun y H4 => ∃ acc, H4 D = some (.lst acc) ∧ acc.length < sizeLine ∧ Pv (i + 1) σ2 (upd H4 D (.lst (acc ++ [y]))) else Pv (i + 1) σ2 H3)
    (hd : ∀ σ H, Pv n σ H → Q (.ref D) H) : CompW (Itz K l1 l2) g tc te Q D σ0 H1 := by
  refine ⟨fun i m σ H => m = n - i ∧ i ≤ n ∧ Pv i σ H, ⟨n, by simp, Nat.zero_le _, h0⟩, ?_⟩
  rintro i m σ H ⟨rfl, hi, p⟩
  obtain ⟨q1, q2⟩ := hl i σ H hi p
  by_cases hlt : i < n
  · refine .inr ⟨⟨xs, ys, xs[i], ys[i], q1, q2, by simp [hn1, hlt], by simp [hn2, hlt]⟩, Pv (i + 1), fun σ' H' p' => ⟨n - (i + 1), by omega, rfl, hlt, p'⟩, fun x H' y => ?_⟩
    obtain ⟨t, z, u, rfl, ht, hz, hu, rfl⟩ := y
    exact hs i z u σ _ t (hz xs q1) (hu ys q2) p ht
  · have e : i = n := by omega
    subst e
    exact .inl ⟨⟨xs, ys, q1, q2, .inl (by omega)⟩, hd σ H p⟩
end
section
variable {K : PySem.W.Frag} {a l1 l2 : Addr} {xs ys : List V} {g : TG} {tb : TS} {D : Ends} {σ : St} {H : Hp}
end
/-! ### list.insert, list.count, sum -/
section
variable {X : Cx}
theorem valsInts : ∀ {ns : List Int} {us : List Value}, Vals (ns.map V.int) us → IntsAre us ns
  | [], us, r => by cases r; exact .nil
  | n :: ns, us, r => by
    cases r with
    | cons r rs =>
      obtain ⟨t, rfl⟩ := r
      exact .cons n t (valsInts rs)
def rCountI : V → List V → Hp → VK → Prop := fun x vs H Q => ∃ (l : Addr) (ns : List Int) (i : Int), x = .ref l ∧ vs = [.int i] ∧ SqL X.K H l (ns.map V.int) ∧ Q (.int (ns.count i)) H
theorem mt_count : MtR X "list.count" (rCountI (X := X)) := by
  intro pins s σ H x vs v us Q I rx rv h
  obtain ⟨l, ns, i, rfl, rfl, hq, q⟩ := h
  cases rx
  obtain ⟨u, rfl, ru⟩ := rv.one
  obtain ⟨t, rfl⟩ := ru
  obtain ⟨its, r', pl, hz⟩ := I.list hq
  exact count_list_ints pl.isList (valsInts r') ⟨.int _, H, I.tok _, ⟨_, rfl⟩, q⟩
theorem pe_bmK {K : PySem.W.Frag} {T name id : String} {r : V → List V → Hp → VK → Prop} {o e : Expr} {es : List Expr} {to : TE} {t : TA} {apos cpos : Pos} (h : X.K = K) (pa : PlainAttrs T) (slot : Slot T name id) (hty : typeOf (.builtin id) = pure (.type "method_descriptor")) (hm : MtR X id r) (ho : PE X o to) (ha : PA X (e :: es) t)
    (hbase : attributeBase o name X.env (eval o X.env) = eval o X.env := by rfl)
    (hfew : ((backTo cpos (starEach (e :: es) X.env)).all (fun x => !x.1) && (backToKw cpos (keywordEach [] X.env)).all (fun x => x.1.isSome)
      && decide ((e :: es).length + ([] : List Keyword).length + (if ([] : List Keyword).isEmpty then 0 else 1) < 30)) = true := by rfl)
    (hline : (apos.endLine == cpos.line) = true := by rfl) (hs : starEach (e :: es) X.env = (false, eval e X.env) :: starEach es X.env := by rfl) (hplain : (backTo cpos (starEach es X.env)).any (·.1) = false := by rfl) :
    PE X (.Call (.Attribute o name apos) (e :: es) [] cpos) (tBM K T r to t) := by
  subst h
  exact pe_bm pa slot hty hm ho ha hbase hfew hline hs hplain
def rCount (K : PySem.W.Frag) : V → List V → Hp → VK → Prop := fun x vs H Q => ∃ (l : Addr) (ns : List Int) (i : Int), x = .ref l ∧ vs = [.int i] ∧ SqL K H l (ns.map V.int) ∧ Q (.int (ns.count i)) H
theorem mt_countK {K : PySem.W.Frag} (h : X.K = K) : MtR X "list.count" (rCount K) := by subst h; exact mt_count
theorem pg_tupK {K : PySem.W.Frag} {es : List Expr} {k : Nat} {t : TGs} {n : Nat} {pos : Pos} (hK : X.K = K) (hc : X.calm = true) (h : PGs X es t)
    (hn : (assignEach es X.env).length = n := by rfl) (hst : (assignEach es X.env).findIdx? (·.1) = none := by rfl) : PG X (.Tuple es k pos) (gTup K n t) := by subst hK; exact pg_tup hc h hn hst
end
end L2
set_option Elab.async false
set_option linter.all false
set_option maxRecDepth 100000
set_option maxHeartbeats 4000000
namespace L2
open PySem
/-! ### comprehensions whose block writes nothing that stood -/
section
variable {K : PySem.W.Frag} {a D : Addr} {xs : List V} {tc : TT} {te : TE} {Q : VK} {rest : St} {H1 : Hp}
theorem fm_succ {α : Type} (f : Nat → Option α) (n : Nat) : (List.range (n + 1)).filterMap f = (List.range n).filterMap f ++ (f n).toList := by
  rw [List.range_succ, List.filterMap_append]
  cases h : f n <;> simp [h]
theorem fm_len {α : Type} (f : Nat → Option α) (n : Nat) : ((List.range n).filterMap f).length ≤ n := by
  have := List.length_filterMap_le f (List.range n)
  simpa using this
theorem Same.newly {H H1 : Hp} {D : Addr} {o : HO} (h : Same H H1) (n : H D = none) : Same H (upd H1 D o) := fun b u e => by rw [upd_ne (ne_of_none e n)]; exact h b u e
/-- over a list: what is told of each item is known ahead -/
theorem comp_val (f : Nat → Option V) (hD : H1 D = none) (hq : SqL K H1 a xs) (hx : xs.length ≤ 100000)
    (hs : ∀ i x H (G : Hp → Prop) (F : VK), xs[i]? = some x → Same H1 H → (∀ H', Same H H' → f i = none → G H') → (∀ y H', Same H H' → f i = some y → F y H') → tc (some x :: rest) H fun b H3 => if b = true then te (some x :: rest) H3 F else G H3)
    (hd : ∀ H, Same H1 H → H D = some (.lst ((List.range xs.length).filterMap f)) → Q (.ref D) H) : CompW (Itl K a) (gName 0) tc te Q D (none :: rest) H1 := by
  refine comp_list (K := K) (xs := xs) (fun i σ H => (∃ v, σ = v :: rest) ∧ Same H1 H ∧ H D = some (.lst ((List.range i).filterMap f))) ⟨⟨none, rfl⟩, same_new hD, upd_same⟩ (fun i σ H _ ⟨_, sm, _⟩ => sm.sqL _ _ hq) ?_ (fun σ H ⟨_, sm, e⟩ => hd H sm e)
  rintro i x σ H hi ⟨⟨v, rfl⟩, sm, e⟩
  have hil : i < xs.length := (List.getElem?_eq_some_iff.mp hi).1
  refine hs i x H _ _ hi sm (fun H3 s3 ef => ⟨⟨_, rfl⟩, sm.trans s3, by rw [s3 _ _ e, fm_succ, ef]; simp⟩) (fun y H4 s4 ef => ?_)
  refine ⟨_, s4 _ _ e, ?_, ⟨_, rfl⟩, (sm.trans s4).newly hD, ?_⟩
  · have := fm_len f i
    rw [sizeLine_eq]; omega
  · rw [upd_same, fm_succ, ef]; rfl
theorem comp_valR {n : Nat} (f : Nat → Option V) (hD : H1 D = none) (hx : n ≤ 100000)
    (hs : ∀ i H (G : Hp → Prop) (F : VK), i < n → Same H1 H → (∀ H', Same H H' → f i = none → G H') → (∀ y H', Same H H' → f i = some y → F y H') → tc (some (.int (0 + i)) :: rest) H fun b H3 => if b = true then te (some (.int (0 + i)) :: rest) H3 F else G H3)
    (hd : ∀ H, Same H1 H → H D = some (.lst ((List.range n).filterMap f)) → Q (.ref D) H) : CompW (Itr 0 n) (gName 0) tc te Q D (none :: rest) H1 := by
  refine comp_range (lo := 0) (n := n) (fun i σ H => (∃ v, σ = v :: rest) ∧ Same H1 H ∧ H D = some (.lst ((List.range i).filterMap f))) ⟨⟨none, rfl⟩, same_new hD, upd_same⟩ ?_ (fun σ H ⟨_, sm, e⟩ => hd H sm e)
  rintro i σ H hi ⟨⟨v, rfl⟩, sm, e⟩
  refine hs i H _ _ hi sm (fun H3 s3 ef => ⟨⟨_, rfl⟩, sm.trans s3, by rw [s3 _ _ e, fm_succ, ef]; simp⟩) (fun y H4 s4 ef => ?_)
  refine ⟨_, s4 _ _ e, ?_, ⟨_, rfl⟩, (sm.trans s4).newly hD, ?_⟩
  · have := fm_len f i
    rw [sizeLine_eq]; omega
  · rw [upd_same, fm_succ, ef]; rfl
/-- two lists side by side -/
theorem comp_valZ {l1 l2 : Addr} {ys : List V} {n : Nat} (hn1 : xs.length = n) (hn2 : ys.length = n) (f : Nat → Option V) (hD : H1 D = none) (hq1 : SqL K H1 l1 xs) (hq2 : SqL K H1 l2 ys) (hx : n ≤ 100000)
    (hs : ∀ i x y H (G : Hp → Prop) (F : VK), xs[i]? = some x → ys[i]? = some y → Same H1 H → (∀ H', Same H H' → f i = none → G H') → (∀ y H', Same H H' → f i = some y → F y H') → tc (some x :: some y :: rest) H fun b H3 => if b = true then te (some x :: some y :: rest) H3 F else G H3)
    (hd : ∀ H, Same H1 H → H D = some (.lst ((List.range n).filterMap f)) → Q (.ref D) H) : CompW (Itz K l1 l2) (gTup K 2 (gCons (gName 0) (gCons (gName 1) gNil))) tc te Q D (none :: none :: rest) H1 := by
  refine comp_zip (K := K) (xs := xs) (ys := ys) hn1 hn2 (fun i σ H => (∃ u v, σ = u :: v :: rest) ∧ Same H1 H ∧ H D = some (.lst ((List.range i).filterMap f))) ⟨⟨none, none, rfl⟩, same_new hD, upd_same⟩ (fun i σ H _ ⟨_, sm, _⟩ => ⟨sm.sqL _ _ hq1, sm.sqL _ _ hq2⟩) ?_ (fun σ H ⟨_, sm, e⟩ => hd H sm e)
  rintro i x y σ H p hix hiy ⟨⟨u, v, rfl⟩, sm, e⟩ hp
  have sp := same_new (o := HO.tup [x, y]) hp
  refine ⟨p, [x, y], rfl, SqT.of upd_same, rfl, _, _, rfl, _, _, rfl, rfl, ?_⟩
  have hil : i < xs.length := (List.getElem?_eq_some_iff.mp hix).1
  refine hs i x y _ _ _ hix hiy (sm.trans sp) (fun H3 s3 ef => ⟨⟨_, _, rfl⟩, (sm.trans sp).trans s3, by rw [s3 _ _ (sp _ _ e), fm_succ, ef]; simp⟩) (fun y H4 s4 ef => ?_)
  refine ⟨_, s4 _ _ (sp _ _ e), ?_, ⟨_, _, rfl⟩, ((sm.trans sp).trans s4).newly hD, ?_⟩
  · have := fm_len f i
    rw [sizeLine_eq]; omega
  · rw [upd_same, fm_succ, ef]; rfl
theorem fm_congr {α β : Type} {f g : α → Option β} : ∀ (l : List α) (_ : True) (h : ∀ x ∈ l, f x = g x), l.filterMap f = l.filterMap g
  | [], _, _ => rfl
  | x :: l, _, h => by
    rw [List.filterMap_cons, List.filterMap_cons, h x (by simp), fm_congr l trivial fun y hy => h y (by simp [hy])]
theorem snocInd {α : Type} {P : List α → Prop} (h0 : P []) (hs : ∀ xs x, P xs → P (xs ++ [x])) (xs : List α) : P xs := by
  rw [← List.reverse_reverse xs]
  induction xs.reverse with
  | nil => exact h0
  | cons x l ih => rw [List.reverse_cons]; exact hs _ _ ih
theorem fm_some {α β : Type} (xs : List α) (g : α → β) : (List.range xs.length).filterMap (fun i => (xs[i]?).map g) = xs.map g := by
  refine snocInd (P := fun xs => (List.range xs.length).filterMap (fun i => (xs[i]?).map g) = xs.map g) rfl (fun xs x ih => ?_) xs
  · show (List.range (xs ++ [x]).length).filterMap (fun i => ((xs ++ [x])[i]?).map g) = (xs ++ [x]).map g
    rw [List.length_append, List.length_singleton, fm_succ, List.map_append]
    congr 1
    · rw [← ih]
      refine fm_congr _ trivial fun i hi => ?_
      have : i < xs.length := by simpa using hi
      rw [List.getElem?_append_left this]
    · simp
end
end L2
namespace L2
open PySem
section
variable {X : Cx} {K : PySem.W.Frag}
end
end L2
namespace L2
open PySem
/-- the rest of a block hidden while its first statement is read: keeps the terms small -/
theorem seq_one {a b : TS} {D : Ends} {σ : St} {H : Hp} (h : ∀ R : St → Hp → Prop, (∀ σ' H', b D σ' H' → R σ' H') → a { D with nx := R } σ H) : tSeq a b D σ H := h _ (fun _ _ x => x)
theorem seq_cps {a b : TS} {D : Ends} {σ : St} {H : Hp} (P : St → Hp → Prop) (h1 : ∀ D' : Ends, (∀ σ' H', P σ' H' → D'.nx σ' H') → D'.rt = D.rt → a D' σ H) (h2 : ∀ σ' H', P σ' H' → b D σ' H') : tSeq a b D σ H := h1 _ h2 rfl
end L2
namespace L2
open PySem PySem.Spec PyProof.Rows
section
variable {X : Cx} {K : PySem.W.Frag} {a : Expr} {ta : TE} {pos : Pos}
end
end L2
set_option Elab.async false
set_option linter.all false
set_option maxRecDepth 100000
set_option maxHeartbeats 4000000
namespace L2
open PySem PySem.Spec PyProof.Rows
section
variable {X : Cx} {K : PySem.W.Frag}
end
section
variable {K : PySem.W.Frag} {a D : Addr} {xs : List V} {te : TE} {Q : VK} {rest : St} {H1 : Hp}
theorem dats_snoc {H : Hp} {vs : List V} {ds : List PyData} {v : V} {d : PyData} (h : Dats H vs ds) (hd : Dat H v d) : Dats H (vs ++ [v]) (ds ++ [d]) := Dats.append h (by simp only [Dats, and_true]; exact hd)
end
end L2
set_option Elab.async false
set_option linter.all false
namespace L2
open PySem
/-- a name of the module that is a number or a text -/
def Gv (mg : Str → Option Value) (x : Str) (v : V) : Prop := ∃ u, mg x = some u ∧ RelV v u
end L2
set_option Elab.async false
set_option linter.all false
set_option maxRecDepth 100000
set_option maxHeartbeats 4000000
namespace L2
open PySem PySem.Spec PyProof.Rows
section
variable {prog : Program} {w : World} {K : Type} [DecidableEq K] {knd : HeapKind prog w K}
end
section
variable {X : Cx} {o e f : Expr} {td ty tx : TE} {apos cpos : Pos}
end
end L2
namespace L2
open PySem PySem.Spec PyProof.Rows
section
variable {X : Cx} {K : PySem.W.Frag}
end
end L2
namespace L2
open PySem
end L2
set_option Elab.async false
set_option linter.all false
set_option maxRecDepth 100000
set_option maxHeartbeats 4000000
namespace L2
open PySem PySem.Spec PyProof.Rows
section
variable {X : Cx} {K : PySem.W.Frag}
end
/-! ### texts put together -/
def cat : List Str → Str
  | [] => Str.empty
  | x :: xs => x ++ cat xs
end L2
set_option Elab.async false
set_option linter.all false
set_option maxRecDepth 100000
set_option maxHeartbeats 4000000
namespace L2
open PySem PySem.Spec PyProof.Rows
section
variable {X : Cx} {body suite : List Stmt} {b0 : Stmt} {cn : Str} {Dc : Addr} {tb : (St → XK) → TS} {th : TS} {cp hpos pos : Pos}
end
end L2
namespace L2
open PySem PySem.Spec PyProof.Rows
section
variable {X : Cx}
end
end L2
set_option Elab.async false
set_option linter.all false
set_option maxRecDepth 100000
set_option maxHeartbeats 4000000
namespace L2
open PySem PySem.Spec PyProof.Rows
section
variable {X : Cx} {pins : List (Addr × Obj)} {σ : St} {H : Hp} {s : Shared} {d : Addr} {u u' : HO}
end
/-! ### over a dict's keys: the dict is held as it stands till the walk is over -/
section
variable {X : Cx} {tg : Expr}
end
section
variable {d D : Addr} {o : Obj} {kvs : List (Key × V)} {tc : TT} {te : TE} {Q : VK} {rest : St} {H1 : Hp}
end
/-! ### let go again -/
end L2
set_option Elab.async false
set_option linter.all false
set_option maxRecDepth 100000
set_option maxHeartbeats 4000000
namespace L2
open PySem PySem.Spec PyProof.Rows
/-! ### range downwards -/
section
variable {X : Cx} {tg : Expr}
/-! ### the least of a list -/
end
end L2
set_option Elab.async false
set_option linter.all false
set_option maxRecDepth 100000
set_option maxHeartbeats 4000000
namespace L2
open PySem PySem.Spec PyProof.Rows
/-! ### reversed of a list -/
section
variable {X : Cx} {tg : Expr}
/-! ### list(range(a, b)) -/
end
end L2
set_option Elab.async false
set_option linter.all false
set_option maxRecDepth 100000
set_option maxHeartbeats 4000000
namespace L2
open PySem PySem.Spec PyProof.Rows
/-! ### in, for lists of data -/
section
variable {X : Cx}
end
end L2
set_option Elab.async false
set_option linter.all false
set_option maxRecDepth 100000
set_option maxHeartbeats 4000000
namespace L2
open PySem PySem.Spec PyProof.Rows
/-! ### a def that may raise, where it doesn't -/
/-! ### data that stay -/
section
variable {H H' : Hp}
mutual
theorem Dat.same (k : Same H H') : ∀ (d : PyData) {v : V}, Dat H v d → Dat H' v d
  | .none, _, h => by simp only [Dat] at h ⊢; exact h
  | .bool _, _, h => by simp only [Dat] at h ⊢; exact h
  | .int _, _, h => by simp only [Dat] at h ⊢; exact h
  | .str _, _, h => by simp only [Dat] at h ⊢; exact h
  | .list ds, _, h => by simp only [Dat] at h ⊢; obtain ⟨a, vs, e, q, r⟩ := h; exact ⟨a, vs, e, k _ _ q, Dats.same k ds r⟩
  | .tuple ds, _, h => by simp only [Dat] at h ⊢; obtain ⟨a, vs, e, q, r⟩ := h; exact ⟨a, vs, e, k _ _ q, Dats.same k ds r⟩
  | .dict _, _, h => by simp only [Dat] at h
theorem Dats.same (k : Same H H') : ∀ (ds : List PyData) {vs : List V}, Dats H vs ds → Dats H' vs ds
  | [], [], _ => by simp only [Dats]
  | d :: ds, v :: vs, h => by simp only [Dats] at h ⊢; exact ⟨Dat.same k d h.1, Dats.same k ds h.2⟩
  | _ :: _, [], h => by simp only [Dats] at h
  | [], _ :: _, h => by simp only [Dats] at h
end
end
/-! ### isinstance(x, (t1, t2)) of plain data -/
section
variable {X : Cx} {K : PySem.W.Frag}
inductive PlT (H : Hp) : V → Value → Prop where
  | int (i : Int) : PlT H (.int i) (.type "int")
  | lst {a : Addr} {xs : List V} (e : H a = some (.lst xs)) : PlT H (.ref a) (.type "list")
  | tup {a : Addr} {xs : List V} (e : H a = some (.tup xs)) : PlT H (.ref a) (.type "tuple")
def rIsiT (K : PySem.W.Frag) : List V → Hp → VK → Prop := fun xs H Q => ∃ (x : V) (t : Value) (p : Addr) (ns : List String) (b : Bool), xs = [x, .ref p] ∧ PlT H x t ∧ H p = some (.tup (ns.map V.ty)) ∧ PySem.W.kitAny K t (ns.map Value.type) = some b ∧ Q (.bl b) H
theorem vals_types {ns : List String} : ∀ {us : List Value}, Vals (ns.map V.ty) us → us = ns.map Value.type := by
  induction ns with
  | nil => intro us r; cases r; rfl
  | cons c cs ih =>
    intro us r
    cases r with
    | cons r rs => cases (show _ = Value.type c from r); rw [ih rs]; rfl
theorem call_isiTK (hk : X.K = K) : CallR X (.builtin "isinstance") (rIsiT K) := by
  subst hk
  intro pins s σ H xs us Q I r h
  obtain ⟨x, t, p, ns, b, rfl, ty, hp, e, q⟩ := h
  obtain ⟨u, w', rfl, r1, r2⟩ := vals2 r
  cases (show w' = Value.ref p from r2)
  obtain ⟨its, rv, ⟨o, ho, hc, m, hd⟩, hz⟩ := I.tuple (SqT.of hp)
  have ei := vals_types rv
  subst ei
  obtain ⟨c0, d0, dt, sl⟩ := o
  simp only at hc hd
  subst hc hd
  cases ty with
  | int i => obtain ⟨t, q1⟩ := (show ∃ t, u = Value.int i t from r1); cases q1; exact PySem.W.kia_tup PySem.W.kitx_int I.kIn True.intro ho e (fun z => nomatch z) fun tk => ⟨.bl b, H, I.tok _, rfl, q⟩
  | @lst a xs ea =>
    cases (show u = Value.ref a from r1)
    obtain ⟨_, _, n, _, h1⟩ := (show ObjOk X.prog X.w H s.heap a (.lst xs) from I.hok a _ ea)
    exact PySem.W.kia_tup PySem.W.kitx_list I.kIn ⟨_, h1, rfl⟩ ho e (fun z => nomatch z) fun tk => ⟨.bl b, H, I.tok _, rfl, q⟩
  | @tup a xs ea =>
    cases (show u = Value.ref a from r1)
    obtain ⟨_, _, _, p⟩ := (show ObjOk X.prog X.w H s.heap a (.tup xs) from I.hok a _ ea)
    obtain ⟨o, h1, h2, _⟩ := p
    exact PySem.W.kia_tup PySem.W.kitx_tuple I.kIn ⟨o, h1, h2⟩ ho e (fun z => nomatch z) fun tk => ⟨.bl b, H, I.tok _, rfl, q⟩
theorem any_lt_list (K : PySem.W.Frag) : PySem.W.kitAny K (.type "list") (["list", "tuple"].map Value.type) = some true := by kernel_rfl
theorem any_lt_tuple (K : PySem.W.Frag) : PySem.W.kitAny K (.type "tuple") (["list", "tuple"].map Value.type) = some true := by kernel_rfl
theorem any_lt_int (K : PySem.W.Frag) : PySem.W.kitAny K (.type "int") (["list", "tuple"].map Value.type) = some false := by kernel_rfl
theorem isi_tuple_list (K : PySem.W.Frag) : PySem.W.kitOne K (.type "tuple") (.type "list") = some false := by kernel_rfl
theorem isi_list_tuple (K : PySem.W.Frag) : PySem.W.kitOne K (.type "list") (.type "tuple") = some false := by kernel_rfl
end
section
variable {K : PySem.W.Frag} {a D : Addr} {xs : List V} {tc : TT} {te : TE} {Q : VK} {rest : St} {H1 : Hp}
end
/-! ### t + u, any tuples -/
section
variable {X : Cx}
end
end L2
set_option Elab.async false
set_option linter.all false
set_option maxRecDepth 100000
set_option maxHeartbeats 4000000
namespace L2
open PySem PySem.Spec PyProof.Rows
/-! ### xs[::-1] -/
section
variable {X : Cx} {K : PySem.W.Frag} {e st : Expr} {te tk : TE} {pos p2 : Pos}
end
end L2
set_option Elab.async false
set_option linter.all false
set_option maxRecDepth 100000
set_option maxHeartbeats 4000000
namespace L2
open PySem PySem.Spec PyProof.Rows
/-! ### data are one -/
section
variable {H : Hp}
mutual
theorem Dat.fn : ∀ (d e : PyData) {v : V}, Dat H v d → Dat H v e → d = e
  | .none, e, v, h, g => by cases e <;> simp only [Dat] at h g <;> first | rfl | (subst h; first | (obtain ⟨_, _, z, _⟩ := g; cases z; done) | (cases g; done))
  | .bool _, e, v, h, g => by cases e <;> simp only [Dat] at h g <;> first | (subst h; first | (injection g with g; rw [g]; done) | (obtain ⟨_, _, z, _⟩ := g; cases z; done) | (cases g; done))
  | .int _, e, v, h, g => by cases e <;> simp only [Dat] at h g <;> first | (subst h; first | (injection g with g; rw [g]; done) | (obtain ⟨_, _, z, _⟩ := g; cases z; done) | (cases g; done))
  | .str _, e, v, h, g => by cases e <;> simp only [Dat] at h g <;> first | (subst h; first | (injection g with g; rw [g]; done) | (obtain ⟨_, _, z, _⟩ := g; cases z; done) | (cases g; done))
  | .list ds, .list es, v, h, g => by
    simp only [Dat] at h g
    obtain ⟨a, vs, rfl, ha, da⟩ := h
    obtain ⟨b, ws, e, hb, db⟩ := g
    injection e with e
    subst e
    rw [ha] at hb
    injection hb with hb
    injection hb with hb
    subst hb
    rw [Dats.fn ds es da db]
  | .tuple ds, .tuple es, v, h, g => by
    simp only [Dat] at h g
    obtain ⟨a, vs, rfl, ha, da⟩ := h
    obtain ⟨b, ws, e, hb, db⟩ := g
    injection e with e
    subst e
    rw [ha] at hb
    injection hb with hb
    injection hb with hb
    subst hb
    rw [Dats.fn ds es da db]
  | .list ds, .tuple es, v, h, g => by
    simp only [Dat] at h g
    obtain ⟨a, vs, rfl, ha, da⟩ := h
    obtain ⟨b, ws, e, hb, db⟩ := g
    injection e with e
    subst e
    rw [ha] at hb
    injection hb with hb
    cases hb
  | .tuple ds, .list es, v, h, g => by
    simp only [Dat] at h g
    obtain ⟨a, vs, rfl, ha, da⟩ := h
    obtain ⟨b, ws, e, hb, db⟩ := g
    injection e with e
    subst e
    rw [ha] at hb
    injection hb with hb
    cases hb
  | .list ds, .none, v, h, g => by simp only [Dat] at h g; obtain ⟨a, vs, rfl, _⟩ := h; cases g
  | .list ds, .bool _, v, h, g => by simp only [Dat] at h g; obtain ⟨a, vs, rfl, _⟩ := h; cases g
  | .list ds, .int _, v, h, g => by simp only [Dat] at h g; obtain ⟨a, vs, rfl, _⟩ := h; cases g
  | .list ds, .str _, v, h, g => by simp only [Dat] at h g; obtain ⟨a, vs, rfl, _⟩ := h; cases g
  | .tuple ds, .none, v, h, g => by simp only [Dat] at h g; obtain ⟨a, vs, rfl, _⟩ := h; cases g
  | .tuple ds, .bool _, v, h, g => by simp only [Dat] at h g; obtain ⟨a, vs, rfl, _⟩ := h; cases g
  | .tuple ds, .int _, v, h, g => by simp only [Dat] at h g; obtain ⟨a, vs, rfl, _⟩ := h; cases g
  | .tuple ds, .str _, v, h, g => by simp only [Dat] at h g; obtain ⟨a, vs, rfl, _⟩ := h; cases g
  | .list ds, .dict _, v, h, g => by simp only [Dat] at g
  | .tuple ds, .dict _, v, h, g => by simp only [Dat] at g
  | .dict _, _, v, h, g => by simp only [Dat] at h
theorem Dats.fn : ∀ (ds es : List PyData) {vs : List V}, Dats H vs ds → Dats H vs es → ds = es
  | [], [], _, _, _ => rfl
  | d :: ds, e :: es, v :: vs, h, g => by
    simp only [Dats] at h g
    rw [Dat.fn d e h.1 g.1, Dats.fn ds es h.2 g.2]
  | [], _ :: _, [], _, g => by simp only [Dats] at g
  | [], _ :: _, _ :: _, h, _ => by simp only [Dats] at h
  | _ :: _, [], [], h, _ => by simp only [Dats] at h
  | _ :: _, [], _ :: _, _, g => by simp only [Dats] at g
  | _ :: _, _ :: _, [], h, _ => by simp only [Dats] at h
end
end
/-! ### xs.index(x), of tuples -/
section
variable {X : Cx}
end
end L2
set_option Elab.async false
set_option linter.all false
set_option maxRecDepth 100000
set_option maxHeartbeats 4000000
namespace L2
open PySem PySem.Spec PyProof.Rows
/-! ### f"..{n}" -/
section
variable {X : Cx} {K : PySem.W.Frag} {e e1 e2 l : Expr} {te t1 t2 tl : TE} {pos : Pos} {tg : Expr}
/-! ### walking a list or a tuple -/
end
section
variable {X : Cx}
end
end L2
set_option Elab.async false
set_option linter.all false
set_option maxRecDepth 100000
set_option maxHeartbeats 4000000
namespace L2
open PySem PySem.Spec PyProof.Rows PySem.Builtin PySem.Builtin.Str
/-! ### texts taken apart -/
section
variable {X : Cx} {K : PySem.W.Frag}
/-! ### the signs of a text, one by one -/
def Its (x : Str) : It := ⟨fun i _ => i < x.cps.size, fun i H v H' => H' = H ∧ ∃ c, x.cps[i]? = some c ∧ v = .str ⟨#[c]⟩, fun i _ => x.cps.size ≤ i⟩
theorem turn_str {P : Program} {w : World} {K : PySem.W.Frag} {tg : Expr} (x : Str) (t : Tok) (it : Addr) : Turn P w K tg (Its x) [it] it (fun i h => i ≤ x.cps.size ∧ (h.IsStrIter it "str_ascii_iterator" x t i ∨ h.IsStrIter it "str_iterator" x t i)) where
  mem := by simp
  obj := fun i h st b hb => by
    have e : b = it := by simpa using hb
    subst e
    rcases st.2 with ⟨o, e, c, d⟩ | ⟨o, e, c, d⟩
    · exact ⟨o, e, fun v z => by rw [d] at z; cases z⟩
    · exact ⟨o, e, fun v z => by rw [d] at z; cases z⟩
  keep := fun i h h' st k => ⟨st.1, st.2.imp (fun ⟨o, e, r⟩ => ⟨o, k it (by simp) o e, r⟩) (fun ⟨o, e, r⟩ => ⟨o, k it (by simp) o e, r⟩)⟩
  item := by
    intro X hP hw hK hc i pins s σ H E I hf st hg
    subst hP hw hK
    have hi : i < x.cps.size := hg
    have hx : x.cps[i]? = some x.cps[i] := by simp [hi]
    obtain ⟨f0, f1, f2, f3, f4, f5⟩ := hf it (by simp)
    rcases st.2 with st | st
    · refine wpAny_pyNext_ascii_item st hx fun h' st' sb => ?_
      have I1 : Inv X pins σ H { s with heap := h', toks := s.toks + 1 } := I.turned (t' := s.toks + 1) (fun b o hb e => (sb.2 b hb).trans e) f0 f1 f3 f4 f5
      obtain ⟨o, e, c, d⟩ := id st'
      exact ⟨_, rfl, go_of (s := { s with heap := h', toks := s.toks + 1 }) e c d (by decide) ⟨.str ⟨#[x.cps[i]]⟩, H, I1, ⟨_, rfl⟩, ⟨rfl, _, hx, rfl⟩, ⟨hi, .inl st'⟩, fun b hb => (hf b hb).1⟩⟩
    · refine wpAny_pyNext_wide_item st hx fun h' st' sb => ?_
      have I1 : Inv X pins σ H { s with heap := h', toks := s.toks + 1 } := I.turned (t' := s.toks + 1) (fun b o hb e => (sb.2 b hb).trans e) f0 f1 f3 f4 f5
      obtain ⟨o, e, c, d⟩ := id st'
      exact ⟨_, rfl, go_of (s := { s with heap := h', toks := s.toks + 1 }) e c d (by decide) ⟨.str ⟨#[x.cps[i]]⟩, H, I1, ⟨_, rfl⟩, ⟨rfl, _, hx, rfl⟩, ⟨hi, .inr st'⟩, fun b hb => (hf b hb).1⟩⟩
  done := by
    intro X hP hw hK hc i pins s σ H E I hf st hg
    subst hP hw hK
    have hx : x.cps[i]? = none := by simpa using (show x.cps.size ≤ i from hg)
    obtain ⟨f0, f1, f2, f3, f4, f5⟩ := hf it (by simp)
    rcases st.2 with st | st
    · exact wpAny_pyNext_ascii_end (I.ok.hd hc) st hx fun h' eb => ⟨rfl, I.turned (t' := s.toks) (fun b o hb e => eb b o hb e) f0 f1 f3 f4 f5⟩
    · exact wpAny_pyNext_wide_end (I.ok.hd hc) st hx fun h' eb => ⟨rfl, I.turned (t' := s.toks) (fun b o hb e => eb b o hb e) f0 f1 f3 f4 f5⟩
  self := fun _ _ _ _ _ st h => st.2.elim (fun st => wpAny_pyIter_striter_ascii st h) (fun st => wpAny_pyIter_striter_wide st h)
def iStr (tl : TE) : TI := fun σ H R => tl σ H fun x H1 => ∃ a, x = .str a ∧ R (Its a) H1
theorem pi_str {tg l : Expr} {tl : TE} (hl : PE X l tl) : PI X tg l (iStr tl) := by
  intro pins s σ H R I h
  refine thn (hl pins s σ H _ I h) fun v s1 ⟨x, H1, I1, r1, q1⟩ => ?_
  obtain ⟨a, rfl, q⟩ := q1
  obtain ⟨t, rfl⟩ := r1
  have fin : ∀ o, (s1.heap.push o).IsStrIter s1.heap.objs.size "str_ascii_iterator" a t 0 ∨ (s1.heap.push o).IsStrIter s1.heap.objs.size "str_iterator" a t 0 → PIE X pins σ tg R (.ref s1.heap.objs.size) { s1 with heap := s1.heap.push o } := by
    intro o st
    refine ⟨s1.heap.objs.size, [s1.heap.objs.size], _, _, H1, rfl, I1.kept (t' := s1.toks) fun b o e => Heap.get?_push_of_some _ e, turn_str a t _, ⟨Nat.zero_le _, st⟩, fun b hb => ?_, q⟩
    have e : b = s1.heap.objs.size := by simpa using hb
    subst e
    exact I1.fpOk (Nat.le_refl _) (I1.hok.fresh (Nat.le_refl _))
  cases ha : a.cps.all (· < 128)
  · exact wpAny_pyIter_wide ha (fin _ (.inr ⟨_, Heap.get?_push_size _ rfl, rfl, rfl⟩))
  · exact wpAny_pyIter_ascii ha (fin _ (.inl ⟨_, Heap.get?_push_size _ rfl, rfl, rfl⟩))
end
section
variable {K : PySem.W.Frag} {D : Addr} {tc : TT} {te : TE} {Q : VK} {rest : St} {H1 : Hp}
theorem comp_strP {x : Str} {g : TG} {σ0 : St} (Pv : Nat → St → Hp → Prop) (h0 : Pv 0 σ0 (upd H1 D (.lst [])))
    (hs : ∀ i c σ H, x.cps[i]? = some c → Pv i σ H → g (.str ⟨#[c]⟩) σ H fun σ2 H2 => tc σ2 H2 fun b H3 =>
      if b = true then te σ2 H3 fun y H4 => ∃ acc, H4 D = some (.lst acc) ∧ acc.length < sizeLine ∧ Pv (i + 1) σ2 (upd H4 D (.lst (acc ++ [y]))) else Pv (i + 1) σ2 H3)
    (hd : ∀ σ H, Pv x.cps.size σ H → Q (.ref D) H) : CompW (Its x) g tc te Q D σ0 H1 := by
  refine ⟨fun i m σ H => m = x.cps.size - i ∧ i ≤ x.cps.size ∧ Pv i σ H, ⟨x.cps.size, by simp, Nat.zero_le _, h0⟩, ?_⟩
  rintro i m σ H ⟨rfl, hi, p⟩
  by_cases hlt : i < x.cps.size
  · refine .inr ⟨hlt, Pv (i + 1), fun σ' H' p' => ⟨x.cps.size - (i + 1), by omega, rfl, hlt, p'⟩, fun y H' e => ?_⟩
    obtain ⟨e, c, hc, rfl⟩ := e
    subst e
    exact hs i c σ _ hc p
  · have e : i = x.cps.size := by omega
    subst e
    exact .inl ⟨Nat.le_refl _, hd σ H p⟩
theorem comp_valS {x : Str} (f : Nat → Option V) (hD : H1 D = none) (hx : x.cps.size ≤ 100000)
    (hs : ∀ i c H (G : Hp → Prop) (F : VK), x.cps[i]? = some c → Same H1 H → (∀ H', Same H H' → f i = none → G H') → (∀ y H', Same H H' → f i = some y → F y H') → tc (some (.str ⟨#[c]⟩) :: rest) H fun b H3 => if b = true then te (some (.str ⟨#[c]⟩) :: rest) H3 F else G H3)
    (hd : ∀ H, Same H1 H → H D = some (.lst ((List.range x.cps.size).filterMap f)) → Q (.ref D) H) : CompW (Its x) (gName 0) tc te Q D (none :: rest) H1 := by
  refine comp_strP (fun i σ H => (∃ v, σ = v :: rest) ∧ Same H1 H ∧ H D = some (.lst ((List.range i).filterMap f))) ⟨⟨none, rfl⟩, same_new hD, upd_same⟩ ?_ (fun σ H ⟨_, sm, e⟩ => hd H sm e)
  rintro i c σ H hi ⟨⟨v, rfl⟩, sm, e⟩
  have hil : i < x.cps.size := (Array.getElem?_eq_some_iff.mp hi).1
  refine hs i c H _ _ hi sm (fun H3 s3 ef => ⟨⟨_, rfl⟩, sm.trans s3, by rw [s3 _ _ e, fm_succ, ef]; simp⟩) (fun y H4 s4 ef => ?_)
  refine ⟨_, s4 _ _ e, ?_, ⟨_, rfl⟩, (sm.trans s4).newly hD, ?_⟩
  · have := fm_len f i
    rw [sizeLine_eq]; omega
  · rw [upd_same, fm_succ, ef]; rfl
end
section
variable {X : Cx}
end
end L2
set_option Elab.async false
set_option linter.all false
set_option maxRecDepth 100000
set_option maxHeartbeats 4000000
namespace L2
open PySem PySem.Spec PyProof.Rows PySem.Builtin PySem.Builtin.Str
/-! ### a text put together of parts without the sign between, taken apart there again -/
/-! ### the texts of the numbers below 1000 -/
end L2
set_option Elab.async false
set_option linter.all false
set_option maxRecDepth 100000
set_option maxHeartbeats 4000000
namespace L2
open PySem PySem.Spec PyProof.Rows
/-! ### classes: methods and instances made -/
section
variable (P : Program) (w : World) (K : PySem.W.Frag) (mg : Str → Option Value) (base : Heap)
def MethAt (k : Nat) (C : Addr) (m : Str) (ps : List Str) (sp : Sp) : Prop := ∃ f fd, FnOk P w K mg base CX0 k f fd ps sp ∧ Meth K C m f ∧ Binds K fd ps []
def MethAtX (k : Nat) (C : Addr) (m : Str) (ps : List Str) (sp : Sp) : Prop := ∃ f fd, FnOk P w K mg base (CX1 P w) k f fd ps sp ∧ Meth K C m f ∧ Binds K fd ps []
/-- dvs: the values of the defaults that stand last -/
def MakeAt (k : Nat) (C : Addr) (x : Str) (ps : List Str) (dvs : List V) (sp : Sp) : Prop := ∃ f fd ds, FnOk P w K mg base CX0 k f fd ps sp ∧ Mk K C f ∧ mg x = some (.ref C) ∧ Binds K fd ps ds ∧ Vals dvs ds
def MakeAtX (k : Nat) (C : Addr) (x : Str) (ps : List Str) (dvs : List V) (sp : Sp) : Prop := ∃ f fd ds, FnOk P w K mg base (CX1 P w) k f fd ps sp ∧ Mk K C f ∧ mg x = some (.ref C) ∧ Binds K fd ps ds ∧ Vals dvs ds
/-- the last parameter by its name -/
def MakeAtK (k : Nat) (C : Addr) (x : Str) (ps : List Str) (kn : Str) (sp : Sp) : Prop := ∃ f fd, FnOk P w K mg base (CX1 P w) k f fd ps sp ∧ Mk K C f ∧ mg x = some (.ref C) ∧
  ∀ (s : Shared) (us : List Value) (z : Value), K.In s.heap → (us ++ [z]).length = ps.length → BindsTo s fd ⟨us, [(kn, z)]⟩ (ps.zip (us ++ [z]))
end
section
variable {P : Program} {w : World} {K : PySem.W.Frag} {mg : Str → Option Value} {base : Heap} {k : Nat} {C : Addr} {m x : Str} {ps : List Str} {sp : Sp} {dvs : List V}
theorem FnOk.calm {f : Addr} {fd : FuncData} (G : FnOk P w K mg base (CX1 P w) k f fd ps sp) : FnOk P w K mg base CX0 k f fd ps (fun vs H Q _ => sp vs H Q fun _ _ _ => False) := by
  refine ⟨fun vs H Q E q => G.len vs H Q _ q, fun A outer s H args us vs Q E hr he hbd hv hs => ?_⟩
  refine codeAny_mono (G.run A outer s H args us vs Q (fun _ _ _ => False) hr he hbd hv hs) fun res s' hq => ?_
  match res, hq with
  | .error ev, hq =>
    obtain ⟨e, cls, dx, H', _, _, _, _, _, _, _, _, z⟩ := hq
    exact z.elim
  | .ok (.ret u), hq => exact hq
theorem MethAtX.calm (F : MethAtX P w K mg base k C m ps sp) : MethAt P w K mg base k C m ps (fun vs H Q _ => sp vs H Q fun _ _ _ => False) := by
  obtain ⟨f, fd, G, r⟩ := F
  exact ⟨f, fd, G.calm, r⟩
theorem MakeAtX.calm (F : MakeAtX P w K mg base k C x ps dvs sp) : MakeAt P w K mg base k C x ps dvs (fun vs H Q _ => sp vs H Q fun _ _ _ => False) := by
  obtain ⟨f, fd, ds, G, r⟩ := F
  exact ⟨f, fd, ds, G.calm, r⟩
end
section
variable {X : Cx} {k : Nat} {C : Addr} {x m : Str} {ps : List Str} {sp : Sp} {dvs : List V} {e o : Expr} {es : List Expr} {ta : TE} {t : TA} {p pos apos : Pos} {E : St → XK}
theorem pe_methA {pl : Sem Bool} (M : MethAt X.prog X.w X.K X.mg X.base k C m ps sp) (c : Cls X.K C) (hr : Room k X.A) (he : PE X o ta) (ha : PA X (e :: es) t)
    (hst : starEach (e :: es) X.env = (false, eval e X.env) :: starEach es X.env := by rfl) (hpl : (backTo pos (starEach es X.env)).any (·.1) = false := by rfl)
    (ht : eval (.Call (.Attribute o m apos) (e :: es) [] pos) X.env = (do
      let ov ← eval o X.env
      standAt apos.atName
      let (f, first) ← holding [ov] (getMethod ov m pl)
      callWith pos f first (backTo pos (starEach (e :: es) X.env)) (backToKw pos (keywordEach [] X.env))) := by rfl) :
    PE X (.Call (.Attribute o m apos) (e :: es) [] pos) (tMeth C m sp [] E0 ta t) := by
  obtain ⟨f, fd, G, hm, hb⟩ := M
  exact pe_meth he c hm G hr hb .nil pass0 ha hst hpl ht
theorem pe_methA0 {pl : Sem Bool} (M : MethAt X.prog X.w X.K X.mg X.base k C m ps sp) (c : Cls X.K C) (hr : Room k X.A) (he : PE X o ta)
    (ht : eval (.Call (.Attribute o m apos) [] [] pos) X.env = (do
      let ov ← eval o X.env
      standAt apos.atName
      let (f, first) ← holding [ov] (getMethod ov m pl)
      callWith pos f first (backTo pos (starEach [] X.env)) (backToKw pos (keywordEach [] X.env))) := by rfl) :
    PE X (.Call (.Attribute o m apos) [] [] pos) (tMeth C m sp [] E0 ta tNil) := by
  obtain ⟨f, fd, G, hm, hb⟩ := M
  exact pe_meth0 he c hm G hr hb .nil pass0 ht
/-- the same where the exceptions of the callee go on -/
def tMethX (C : Addr) (m : Str) (sp : Sp) (E : St → XK) (ta : TE) (t : TA) : TE := fun σ H Q => ta σ H fun x H1 => ∃ a dx fs, x = .ref a ∧ H1 a = some (.ins C dx fs) ∧ fs.lookup m = none ∧ t σ H1 fun vs H2 => sp (x :: vs) H2 Q (E σ)
theorem run_fnX {pins : List (Addr × Obj)} {σ : St} {H : Hp} {s : Shared} {Q : VK} {us : List Value} {vs : List V} {f : Addr} {fd : FuncData} (G : FnOk X.prog X.w X.K X.mg X.base (CX1 X.prog X.w) k f fd ps sp) (hx : X.ex = []) (R : Rz X E) (hr : Room k X.A) (hb : Binds X.K fd ps [])
    (I : Inv X pins σ H s) (r : Vals vs us) (q : sp vs H Q (E σ)) : wpAny (model X.prog X.w) X.A (call (.ref f) us) (EP X pins σ Q) X.xe s := by
  have hlen : us.length = ps.length := by rw [← r.length]; exact G.len _ _ _ _ q
  have hbd := hb s us I.kIn (by rw [List.append_nil]; exact hlen)
  rw [List.append_nil] at hbd
  refine wpAny_call (codeAny_mono (G.run X.A X.stack s H ⟨us, []⟩ us vs Q (E σ) hr I.env0 hbd r q) fun res s' hq => ?_)
  match res, hq with
  | .error ev, hq => exact passes1 hx R I hq
  | .ok (.ret u), hq => exact I.after hq
theorem pe_methX {pl : Sem Bool} (M : MethAtX X.prog X.w X.K X.mg X.base k C m ps sp) (c : Cls X.K C) (hx : X.ex = []) (R : Rz X E) (hr : Room k X.A) (he : PE X o ta) (ha : PA X (e :: es) t)
    (hst : starEach (e :: es) X.env = (false, eval e X.env) :: starEach es X.env := by rfl) (hpl : (backTo pos (starEach es X.env)).any (·.1) = false := by rfl)
    (ht : eval (.Call (.Attribute o m apos) (e :: es) [] pos) X.env = (do
      let ov ← eval o X.env
      standAt apos.atName
      let (f, first) ← holding [ov] (getMethod ov m pl)
      callWith pos f first (backTo pos (starEach (e :: es) X.env)) (backToKw pos (keywordEach [] X.env))) := by rfl) :
    PE X (.Call (.Attribute o m apos) (e :: es) [] pos) (tMethX C m sp E ta t) := by
  obtain ⟨f, fd, G, hm, hb⟩ := M
  intro pins s σ H Q I h
  refine PySem.W.methodCall_KW (pl := pl) (thn (he pins s σ H _ I h) fun u s1 ⟨x, H1, I1, rx, a, dx, fs, ex, ea, l, q⟩ => ?_) ht
  subst ex
  obtain rfl : u = Value.ref a := rx
  refine getmeth_ok I1 ea c hm l ?_
  refine PySem.W.callWith_K (first := [.ref a]) (h₀ := X.base) I.ok.mod.kin hm.kp (thn (ha pos pins s1 σ H1 _ I1 q) fun us s2 ⟨vs, H2, I2, r, q2⟩ => ⟨I2.kIn, ?_⟩) hst hpl
  exact run_fnX (us := .ref a :: us) (vs := .ref a :: vs) G hx R hr hb I2 (.cons rfl r) q2
theorem pe_makeA (M : MakeAt X.prog X.w X.K X.mg X.base k C x ps dvs sp) (hr : Room (k + 1) X.A) (hg : Gl X x) (ha : PA X (e :: es) t) (hdb : (x == ("__debug__" : Str)) = false := by decide)
    (he : starEach (e :: es) X.env = (false, eval e X.env) :: starEach es X.env := by rfl) (hpl : (backTo pos (starEach es X.env)).any (·.1) = false := by rfl) :
    PE X (.Call (.Name x p) (e :: es) [] pos) (tMake C sp dvs E0 t) := by
  obtain ⟨f, fd, ds, G, mk, hm, hb, hd⟩ := M
  exact pe_make mk G hr hg hm hb hd pass0 ha hdb he hpl
def tMakeX (C : Addr) (sp : Sp) (dvs : List V) (E : St → XK) (t : TA) : TE := fun σ H Q => t σ H fun vs H1 => ∀ x dx, H1 x = none → H1 dx = none → dx ≠ x →
  sp (.ref x :: (vs ++ dvs)) (upd (upd H1 dx (.own x)) x (.ins C dx [])) (fun v H2 => v = .non ∧ Q (.ref x) H2) (E σ)
theorem run_makeX {pins : List (Addr × Obj)} {σ : St} {H : Hp} {s : Shared} {Q : VK} {args : Args} {us : List Value} {vs : List V} {f : Addr} {fd : FuncData} (M : Mk X.K C f) (G : FnOk X.prog X.w X.K X.mg X.base (CX1 X.prog X.w) k f fd ps sp) (hx : X.ex = []) (R : Rz X E) (hr : Room (k + 1) X.A)
    (I : Inv X pins σ H s) (r : Vals vs us) (hb : ∀ s' : Shared, X.K.In s'.heap → ∀ a : Addr, (Value.ref a :: us).length = ps.length → BindsTo s' fd ⟨Value.ref a :: args.pos, args.kw⟩ (ps.zip (Value.ref a :: us)))
    (h : ∀ x dx, H x = none → H dx = none → dx ≠ x → sp (.ref x :: vs) (upd (upd H dx (.own x)) x (.ins C dx [])) (fun v H2 => v = .non ∧ Q (.ref x) H2) (E σ)) :
    wpAny (model X.prog X.w) X.A (call (.ref C) args.pos args.kw) (EP X pins σ Q) X.xe s := by
  have hq := h (s.heap.objs.size + 1) s.heap.objs.size (I.hok.fresh (Nat.le_succ _)) (I.hok.fresh (Nat.le_refl _)) (Nat.ne_of_lt (Nat.lt_succ_self _))
  have I2 := Inv.made (C := C) I
  have r2 : Vals (V.ref (s.heap.objs.size + 1) :: vs) (Value.ref (s.heap.objs.size + 1) :: us) := .cons rfl r
  have hl : (Value.ref (s.heap.objs.size + 1) :: us).length = ps.length := by
    have e := r2.length
    rw [G.len _ _ _ _ hq] at e
    exact e.symm
  refine wpAny_call (make_map (f := f) I.kIn M.makes M.init (beq_iff_eq.mp M.fn) (codeAny_mono (G.run _ X.stack _ _ ⟨Value.ref (s.heap.objs.size + 1) :: args.pos, args.kw⟩ (Value.ref (s.heap.objs.size + 1) :: us) _ _ (E σ) (hr.make C args.pos args.kw)
    (I2.env0.make C args.pos args.kw) (hb _ I2.kIn _ hl) r2 hq) fun r s' hq' => ?_))
  match r, hq' with
  | .error ev, hq' => exact passes1 hx R I2 hq'
  | .ok (.ret u), hq' =>
    obtain ⟨v, H', I3, rv, ev, q3⟩ := I2.after hq'
    subst ev
    exact ⟨rv, ⟨V.ref (s.heap.objs.size + 1), H', I3, rfl, q3⟩⟩
theorem pe_makeX (M : MakeAtX X.prog X.w X.K X.mg X.base k C x ps dvs sp) (hx : X.ex = []) (R : Rz X E) (hr : Room (k + 1) X.A) (hg : Gl X x) (ha : PA X (e :: es) t) (hdb : (x == ("__debug__" : Str)) = false := by decide)
    (he : starEach (e :: es) X.env = (false, eval e X.env) :: starEach es X.env := by rfl) (hpl : (backTo pos (starEach es X.env)).any (·.1) = false := by rfl) :
    PE X (.Call (.Name x p) (e :: es) [] pos) (tMakeX C sp dvs E t) := by
  obtain ⟨f, fd, ds, G, mk, hm, hb, hd⟩ := M
  intro pins s σ H Q I h
  refine wpAny_Call_Name_kw (ld_glob I hg hm ?_ hdb)
  refine PySem.W.callWith_K (h₀ := X.base) I.ok.mod.kin mk.kp (thn (ha pos pins s σ H _ I h) fun us s1 ⟨vs, H1, I1, r, q⟩ => ⟨I1.kIn, ?_⟩) he hpl
  exact run_makeX (args := ⟨us, []⟩) (us := us ++ ds) (vs := vs ++ dvs) mk G hx R hr I1 (r.append hd) (fun s' ki a hl => hb s' (Value.ref a :: us) ki hl) q
end
end L2
namespace L2
open PySem PySem.Spec PyProof.Rows PySem.Builtin PySem.Builtin.Str
/-! ### more of classes and texts -/
section
variable {X : Cx} {K : PySem.W.Frag} {o e value : Expr} {f : Str} {pos pos' tpos : Pos} {ta tv : TE}
theorem pe_fldK (hK : X.K = K) (he : PE X e ta) (hb : attributeBase e f X.env (eval e X.env) = eval e X.env) : PE X (.Attribute e f pos) (tFld K ta f) := by subst hK; exact pe_fld he hb
theorem ps_fldK (hK : X.K = K) (ha : PE X o ta) (hv : PE X value tv) (hs : swapsWith value (some (.Attribute o f pos')) pos.line X.env = pure false) : PS X (.Assign [.Attribute o f pos'] value pos) (sFld K ta tv f) := by subst hK; exact ps_fld ha hv hs
theorem ps_fldaugK {op : Operator} {rd : V → V → Hp → VK → Prop} (hK : X.K = K) (ha : PE X o ta) (hv : PE X value tv) (hop : InOp X op rd) : PS X (.AugAssign (.Attribute o f tpos) op value pos) (sFldAug K ta tv rd f) := by subst hK; exact ps_fldaug ha hv hop
def rIdxS : V → List V → Hp → VK → Prop := fun x vs H Q => ∃ (a y : Str) (i : Nat) (r : List Nat), x = .str a ∧ vs = [.str y] ∧ occurrences a y 0 a.length 1 = i :: r ∧ Q (.int i) H
theorem mt_indexS : MtR X "str.index" rIdxS := by
  intro pins s σ H x vs v us Q I rx rv h
  obtain ⟨a, y, i, r, rfl, rfl, ho, q⟩ := h
  obtain ⟨t, rfl⟩ := rx
  obtain ⟨u, rfl, ru⟩ := rv.one
  obtain ⟨t2, rfl⟩ := ru
  exact call_meets PySem.F.slot_str_index (typeIs_str _ _ _) PySem.F.entry_str_index (PySem.F.args_str_index_2 _ _) (gives_str_index a y t t2 i r ho).meets ⟨.int i, H, I.tok _, ⟨_, rfl⟩, q⟩
end
/-! ### a def with defaults -/
structure FunD (K : PySem.W.Frag) (x qual : Str) (st : Stmt) (ds : List Value) (f : Addr) (fd : FuncData) : Prop where
  ex : ∃ (oc : Value) (od : Option Addr) (T : Addr) (kV doc pm : Value) (an : Option Addr) (cdv ct : Value) (osl : Array (Option Value)) (tc : Value) (td : Option Addr) (tn : Nat) (tsl : Array (Option Value)),
    fd = PySem.W.fnOf x qual (defArgs st) (defBody st) (defScope st) (.ref T) kV doc pm an cdv ct ∧ K.lookup f = some ⟨oc, od, .func fd, osl⟩ ∧ PySem.W.codeIn K cdv qual = true ∧ K.lookup T = some ⟨tc, td, .seq ds.toArray tn, tsl⟩
  kp : PySem.W.keepIn K (.ref f) = true
section
variable {P : Program} {w : World} {K : PySem.W.Frag} {mg : Str → Option Value} {base : Heap}
theorem FunD.okX {x qual : Str} {st : Stmt} {ds : List Value} {f : Addr} {fd : FuncData} {N ps : List Str} {k : Nat} {sp : Sp} (F : FunD K x qual st ds f fd) (S : FnScope N ps (defScope st)) (len : ∀ vs H Q E, sp vs H Q E → vs.length = ps.length)
    (hbody : ∀ (cdv : Value) (A : Around) (outer : List Env) (s : Shared) (H : Hp) (vs : List V) (Q : VK) (E : XK), Room k (A.deeper (envOfC qual (defScope st) s.heap.objs.size f cdv)) → sp vs H Q E →
      Rz (cxOf (CX1 P w) P w K mg base N qual (defScope st) f cdv A outer s H E) (fun _ => E) →
      ∃ t, PSs (cxOf (CX1 P w) P w K mg base N qual (defScope st) f cdv A outer s H E) (defBody st) t ∧ t { nx := fun _ H' => Q .non H', rt := Q } (start N vs) H) : FnOk P w K mg base (CX1 P w) (k + 1) f fd ps sp := by
  obtain ⟨oc, od, T, kV, doc, pm, an, cdv, ct, osl, tc, td, tn, tsl, rfl, lk, hcd, _⟩ := F.ex
  exact fn_of lk hcd S len fun A outer s H vs Q E hr hsp => hbody cdv A outer s H vs Q E hr hsp rz_leave
end
/-! ### an instance made with the last parameter by its name -/
section
variable {X : Cx} {k : Nat} {C : Addr} {x kn : Str} {ps : List Str} {sp : Sp} {e ke : Expr} {es : List Expr} {te : TE} {t : TA} {p pos kpos : Pos} {E : St → XK}
end
end L2
set_option Elab.async false
set_option linter.all false
set_option maxRecDepth 100000
set_option maxHeartbeats 4000000
namespace L2
open PySem PySem.Spec PyProof.Rows
/-! ### a comprehension one of whose own names is taken along by another one within -/
section
variable {X : Cx} {pins : List (Addr × Obj)} {σ : St} {H : Hp} {s : Shared} {scope : Scope} {N own : List Str} {caps : List Nat} {fp : List Addr} {C : Nat} {xc : Str}
end

section
variable {M : Model} {A : Around} {E : Value → Shared → Prop} {s : Shared}
end
section
variable {X : Cx} {elt tg iter : Expr} {ifs : List Expr} {scope : Scope} {pos : Pos} {N own : List Str} {caps : List Nat} {wi : TI} {g : TG} {tc : TT} {te : TE} {xc : Str}
end
end L2
set_option Elab.async false
set_option linter.all false
set_option maxRecDepth 100000
set_option maxHeartbeats 4000000
namespace L2
open PySem PySem.Spec PyProof.Rows PySem.W
section
variable {X : Cx}
/-! ### list(range(n)) -/
end
end L2
set_option Elab.async false
set_option linter.all false
set_option maxRecDepth 100000
set_option maxHeartbeats 4000000
namespace L2
open PySem PySem.Spec PyProof.Rows
/-! ### x, y = a list of two -/
section
variable {prog : Program} {w : World} {A : Around} {E : Value → Shared → Prop} {s : Shared}
theorem two_of_list {l : Addr} {u v : Value} {Q : List Value → Shared → Prop} (hh : A.handled = none) (hl : s.heap.IsList l #[u, v]) (hQ : ∀ h', Heap.ExtBut s.heap.objs.size s.heap h' → Q [u, v] { s with heap := h' }) :
    wpAny (model prog w) A (unpackItems (.ref l) 2 none) Q E s := by
  obtain ⟨o, ho, hc, hd⟩ := id hl
  have ne : l ≠ s.heap.objs.size := Nat.ne_of_lt (Heap.lt_size ho)
  unfold unpackItems notIterableAtAll
  refine wpAny_bind (wpAny_bind (wpAny_specialOf (T := "list") ⟨o, ho, hc⟩ F.slot_list_iter.lookup (wpAny_pure ?_)))
  simp only [Bool.false_eq_true, if_false]
  refine wpAny_bind (wpAny_holding (wpAny_pyIter_list hl (wpAny_bind (wpAny_holding ?_))))
  have l1 : (s.heap.push { cls := .type "list_iterator", data := .fields #[.ref l, .int 0 0] }).IsList l #[u, v] := ⟨o, Heap.get?_push_of_some _ ho, hc, hd⟩
  show wpAny _ _ (pyNext (.ref s.heap.objs.size) >>= _) _ _ _
  refine wpAny_bind (wpAny_pyNext_list_item ⟨_, Heap.get?_push_size _ rfl, rfl, rfl⟩ l1 (x := u) rfl fun h1 i1 b1 => wpAny_bind (wpAny_holding ?_))
  have l2 : h1.IsList l #[u, v] := by obtain ⟨o', ho', r⟩ := l1; exact ⟨o', (b1.2 l ne).trans ho', r⟩
  show wpAny _ _ (pyNext (.ref s.heap.objs.size) >>= _) _ _ _
  refine wpAny_bind (wpAny_pyNext_list_item i1 l2 (x := v) rfl fun h2 i2 b2 => wpAny_bind (wpAny_holding ?_))
  have l3 : h2.IsList l #[u, v] := by obtain ⟨o', ho', r⟩ := l2; exact ⟨o', (b2.2 l ne).trans ho', r⟩
  show wpAny _ _ (pure []) _ _ _
  refine wpAny_pure (wpAny_pure (wpAny_pure ?_))
  rw [if_neg (by simp)]
  refine wpAny_bind (wpAny_holding (wpAny_pyNext_list_end hh i2 l3 rfl fun h3 e3 => ?_))
  simp only [Option.isSome_none, Bool.false_eq_true, if_false]
  exact wpAny_pure (hQ h3 fun b o hb e => e3 b o hb ((b2.2 b hb).trans ((b1.2 b hb).trans (Heap.get?_push_of_some _ e))))
end
section
variable {X : Cx} {pos : Pos}
def gLst2 (K : PySem.W.Frag) (t : TGs) : TG := fun v σ H Q => ∃ a x y, v = .ref a ∧ SqL K H a [x, y] ∧ t [x, y] σ H Q
theorem pg_lst2K {K : PySem.W.Frag} {es : List Expr} {k : Nat} {t : TGs} (hK : X.K = K) (hc : X.calm = true) (h : PGs X es t)
    (hn : (assignEach es X.env).length = 2 := by rfl) (hst : (assignEach es X.env).findIdx? (·.1) = none := by rfl) : PG X (.Tuple es k pos) (gLst2 K t) := by
  subst hK
  intro pins s σ H v u Q I r hw
  obtain ⟨a, x, y, e1, hq, hw⟩ := hw
  subst e1
  cases r
  obtain ⟨its, rv, p, hz⟩ := I.list hq
  obtain ⟨u1, u2, rfl, r1, r2⟩ := vals2 rv
  rw [assign_Tuple]
  refine wpAny_bind (wpAny_standAt ?_)
  unfold unpack
  rw [hn, hst]
  refine wpAny_bind (wpAny_holding (two_of_list (I.ok.hd hc) p.isList fun h' hx => ?_))
  have I1 : Inv X pins σ H { s with heap := h' } := I.kept (t' := s.toks) fun b o e => hx b o (Nat.ne_of_lt (Heap.lt_size e)) e
  exact h pins _ σ H _ _ Q I1 rv hw
end
end L2
set_option Elab.async false
set_option linter.all false
set_option maxRecDepth 100000
set_option maxHeartbeats 4000000
namespace L2
open PySem
/-! ### tags: to whom an address belongs ([]: to nobody in particular; [0]: never written again; i :: r: to thing i) -/
abbrev Tg := Addr → List Nat
def tgSet (τ : Tg) (x : Addr) (t : List Nat) : Tg := fun y => if y = x then t else τ y
theorem tgSet_same {τ : Tg} {x : Addr} {t : List Nat} : tgSet τ x t x = t := if_pos rfl
theorem tgSet_ne {τ : Tg} {x y : Addr} {t : List Nat} (h : y ≠ x) : tgSet τ x t y = τ y := if_neg h
def Unt (τ : Tg) (H : Hp) : Prop := ∀ x, H x = none → τ x = []
theorem Unt.dom {τ : Tg} {H H' : Hp} (u : Unt τ H) (d : ∀ x, H' x = none → H x = none) : Unt τ H' := fun x e => u x (d x e)
theorem Unt.same {τ : Tg} {H H' : Hp} (u : Unt τ H) (k : Same H H') : Unt τ H' := u.dom fun _ e => k.free e
theorem Unt.claim {τ : Tg} {H H' : Hp} {p : Addr} {t : List Nat} (u : Unt τ H) (k : Same H H') (hp : ∃ o, H' p = some o) : Unt (tgSet τ p t) H' := fun x e => by
  have n : x ≠ p := fun z => by
    obtain ⟨o, ho⟩ := hp
    rw [z, ho] at e
    cases e
  rw [tgSet_ne n]
  exact u.same k x e
theorem ne_tag {τ : Tg} {a b : Addr} {s t : List Nat} (ha : τ a = s) (hb : τ b = t) (h : s ≠ t) : a ≠ b := fun e => h (by rw [← ha, ← hb, e])
/-- the things of i alone are changed -/
structure Stp (i : Nat) (τ : Tg) (H H' : Hp) : Prop where
  keep : ∀ x o, H x = some o → (τ x).head? ≠ some i → H' x = some o
  tup : ∀ x xs, H x = some (.tup xs) → H' x = some (.tup xs)
  dom : ∀ x, H' x = none → H x = none
theorem Stp.of_same {i : Nat} {τ : Tg} {H H' : Hp} (k : Same H H') : Stp i τ H H' := ⟨fun x o e _ => k _ _ e, fun x xs e => k _ _ e, fun x e => k.free e⟩
theorem Stp.un {i : Nat} {τ : Tg} {H H' : Hp} (a : Stp i τ H H') (u : Unt τ H) : Unt τ H' := u.dom a.dom
/-- what belongs to i, and what is never written again, stays -/
structure Mv (i : Nat) (τ : Tg) (H : Hp) (τ' : Tg) (H' : Hp) : Prop where
  keep : ∀ x o, H x = some o → τ x = [0] ∨ (τ x).head? = some i → H' x = some o ∧ τ' x = τ x
  tup : ∀ x xs, H x = some (.tup xs) → H' x = some (.tup xs)
theorem Mv.of_same {i : Nat} {τ : Tg} {H H' : Hp} (k : Same H H') : Mv i τ H τ H' := ⟨fun x o e _ => ⟨k _ _ e, rfl⟩, fun x xs e => k _ _ e⟩
theorem Mv.tags {i : Nat} {τ τ' : Tg} {H H' : Hp} (k : Same H H') (t : ∀ x o, H x = some o → τ' x = τ x) : Mv i τ H τ' H' := ⟨fun x o e _ => ⟨k _ _ e, t x o e⟩, fun x xs e => k _ _ e⟩
theorem Mv.of_kp {i : Nat} {τ : Tg} {H H' : Hp} {a : Addr} {o : HO} (k : Kp a H H') (ha : H a = some o) (hn : ∀ xs, o ≠ .tup xs) (ht : τ a = []) : Mv i τ H τ H' := ⟨fun x u e t => ⟨k _ _ e (fun z => by
  rw [z, ht] at t
  rcases t with t | t <;> cases t), rfl⟩, fun x xs e => k _ _ e (ne_of e ha fun z => hn xs z.symm)⟩
theorem Mv.trans {i : Nat} {τ τ1 τ2 : Tg} {H H1 H2 : Hp} (a : Mv i τ H τ1 H1) (b : Mv i τ1 H1 τ2 H2) : Mv i τ H τ2 H2 := ⟨fun x o e t => by
  obtain ⟨e1, t1⟩ := a.keep x o e t
  obtain ⟨e2, t2⟩ := b.keep x o e1 (by rw [t1]; exact t)
  exact ⟨e2, by rw [t2, t1]⟩, fun x xs e => b.tup _ _ (a.tup _ _ e)⟩
end L2
set_option Elab.async false
set_option linter.all false
set_option maxRecDepth 100000
set_option maxHeartbeats 4000000
namespace Prf
open PySem L2
/-! ### programs -/
inductive Ex1 where
  | num (n : Int)
  | box (b : Nat)
  deriving DecidableEq
inductive Exx where
  | one (x : Ex1)
  | two (p : Bool) (x y : Ex1)
  deriving DecidableEq
inductive Rw where
  | load (b c : Nat)
  | store (c : Nat) (e : Exx)
  | swap (b c : Nat) (e : Exx)
  | lett (b : Nat) (e : Exx)
  | say (e : Exx)
  | go (k : Nat)
  | unl (q : Bool) (e f : Exx) (k : Nat)
  deriving DecidableEq
def bxS (b : Nat) : Str := ⟨#[97 + b]⟩
def x1D : Ex1 → PyData
  | .num n => .tuple [.str "number", .int n]
  | .box b => .tuple [.str "box", .str (bxS b)]
def exD : Exx → PyData
  | .one x => x1D x
  | .two p x y => .tuple [.str (if p then "plus" else "minus"), x1D x, x1D y]
def rwD : Rw → PyData
  | .load b c => .tuple [.str "load", .str (bxS b), .int c]
  | .store c e => .tuple [.str "store", .int c, exD e]
  | .swap b c e => .tuple [.str "swap", .str (bxS b), .int c, exD e]
  | .lett b e => .tuple [.str "let", .str (bxS b), exD e]
  | .say e => .tuple [.str "say", exD e]
  | .go k => .tuple [.str "go", .int k]
  | .unl q e f k => .tuple [.str "unless", .str (if q then "=" else "<"), exD e, exD f, .int k]
def x1Ok : Ex1 → Prop
  | .num n => 0 ≤ n ∧ n < 1000
  | .box b => b < 8
def exOk : Exx → Prop
  | .one x => x1Ok x
  | .two _ x y => x1Ok x ∧ x1Ok y
def rwOk (m : Nat) : Rw → Prop
  | .load b c => b < 8 ∧ c < m
  | .store c e => c < m ∧ exOk e
  | .swap b c e => b < 8 ∧ c < m ∧ exOk e
  | .lett b e => b < 8 ∧ exOk e
  | .say e => exOk e
  | .go _ => True
  | .unl _ e f _ => exOk e ∧ exOk f
theorem imm_x1 : ∀ x : Ex1, imm (x1D x) = true
  | .num _ => rfl
  | .box _ => rfl
theorem imm_ex : ∀ e : Exx, imm (exD e) = true
  | .one x => imm_x1 x
  | .two p x y => by simp only [exD, imm, imms, imm_x1, Bool.and_self]
theorem imm_rw : ∀ r : Rw, imm (rwD r) = true
  | .load _ _ => rfl
  | .store _ e => by simp only [rwD, imm, imms, imm_ex, Bool.and_self]
  | .swap _ _ e => by simp only [rwD, imm, imms, imm_ex, Bool.and_self]
  | .lett _ e => by simp only [rwD, imm, imms, imm_ex, Bool.and_self]
  | .say e => by simp only [rwD, imm, imms, imm_ex, Bool.and_self]
  | .go _ => rfl
  | .unl _ e f _ => by simp only [rwD, imm, imms, imm_ex, Bool.and_self]
section
variable {H : Hp} {v : V}
theorem at_x1 {x : Ex1} (h : Dat H v (x1D x)) : ∃ t, v = .ref t ∧ H t = some (.tup (match x with | .num n => [.str "number", .int n] | .box b => [.str "box", .str (bxS b)])) := by
  cases x <;> simp only [x1D, Dat] at h <;> obtain ⟨t, vs, rfl, e, d⟩ := h <;> refine ⟨t, rfl, ?_⟩ <;> rw [e] <;>
  · match vs, d with
    | [a, b], d =>
      simp only [Dats, Dat, and_true] at d
      obtain ⟨rfl, rfl⟩ := d
      rfl
theorem at_two {p : Bool} {x y : Ex1} (h : Dat H v (exD (.two p x y))) : ∃ t a b, v = .ref t ∧ H t = some (.tup [.str (if p then "plus" else "minus"), a, b]) ∧ Dat H a (x1D x) ∧ Dat H b (x1D y) := by
  simp only [exD, Dat] at h
  obtain ⟨t, vs, rfl, e, d⟩ := h
  match vs, d with
  | [a, b, c], d =>
    simp only [Dats, Dat, and_true] at d
    obtain ⟨rfl, d1, d2⟩ := d
    exact ⟨t, _, _, rfl, e, d1, d2⟩
/-- what stands in a row, behind its word -/
def Parts (H : Hp) (vs : List V) : Rw → Prop
  | .load b c => vs = [.str "load", .str (bxS b), .int c]
  | .store c e => ∃ x, vs = [.str "store", .int c, x] ∧ Dat H x (exD e)
  | .swap b c e => ∃ x, vs = [.str "swap", .str (bxS b), .int c, x] ∧ Dat H x (exD e)
  | .lett b e => ∃ x, vs = [.str "let", .str (bxS b), x] ∧ Dat H x (exD e)
  | .say e => ∃ x, vs = [.str "say", x] ∧ Dat H x (exD e)
  | .go k => vs = [.str "go", .int k]
  | .unl q e f k => ∃ x y, vs = [.str "unless", .str (if q then "=" else "<"), x, y, .int k] ∧ Dat H x (exD e) ∧ Dat H y (exD f)
theorem at_rw {r : Rw} (h : Dat H v (rwD r)) : ∃ t vs, v = .ref t ∧ H t = some (.tup vs) ∧ Parts H vs r := by
  cases r <;> simp only [rwD, Dat] at h <;> obtain ⟨t, vs, rfl, e, d⟩ := h <;> refine ⟨t, vs, rfl, e, ?_⟩
  · match vs, d with
    | [a, b, c], d =>
      simp only [Dats, Dat, and_true] at d
      obtain ⟨rfl, rfl, rfl⟩ := d
      rfl
  · match vs, d with
    | [a, b, c], d =>
      simp only [Dats, Dat, and_true] at d
      obtain ⟨rfl, rfl, d⟩ := d
      exact ⟨_, rfl, d⟩
  · match vs, d with
    | [a, b, c, x], d =>
      simp only [Dats, Dat, and_true] at d
      obtain ⟨rfl, rfl, rfl, d⟩ := d
      exact ⟨_, rfl, d⟩
  · match vs, d with
    | [a, b, c], d =>
      simp only [Dats, Dat, and_true] at d
      obtain ⟨rfl, rfl, d⟩ := d
      exact ⟨_, rfl, d⟩
  · match vs, d with
    | [a, b], d =>
      simp only [Dats, Dat, and_true] at d
      obtain ⟨rfl, d⟩ := d
      exact ⟨_, rfl, d⟩
  · match vs, d with
    | [a, b], d =>
      simp only [Dats, Dat, and_true] at d
      obtain ⟨rfl, rfl⟩ := d
      rfl
  · match vs, d with
    | [a, b, c, x, y], d =>
      simp only [Dats, Dat, and_true] at d
      obtain ⟨rfl, rfl, d1, d2, rfl⟩ := d
      exact ⟨_, _, rfl, d1, d2⟩
end
/-! ### hands, going -/
def v1 (bs : List Int) : Ex1 → Int
  | .num n => n % 1000
  | .box b => (bs[b]?).getD 0
def vx (bs : List Int) : Exx → Int
  | .one x => v1 bs x
  | .two true x y => (v1 bs x + v1 bs y) % 1000
  | .two false x y => (v1 bs x - v1 bs y) % 1000
structure HandS where
  (rws : List Rw) (pos : Nat) (bs sy : List Int) (st : Str)
def touch : Rw → Bool
  | .load _ _ => true
  | .store _ _ => true
  | .swap _ _ _ => true
  | _ => false
def holdsR (bs : List Int) : Rw → Bool
  | .unl true e f _ => decide (vx bs e = vx bs f)
  | .unl false e f _ => decide (vx bs e < vx bs f)
  | _ => false
def doRow (s : HandS) : Rw → HandS
  | .lett b e => { s with pos := s.pos + 1, bs := s.bs.set b (vx s.bs e) }
  | .say e => { s with pos := s.pos + 1, sy := s.sy ++ [vx s.bs e] }
  | .go k => { s with pos := k }
  | .unl q e f k => { s with pos := if holdsR s.bs (.unl q e f k) then s.pos + 1 else k }
  | _ => s
def led : Nat → HandS → HandS
  | 0, s => match s.rws[s.pos]? with
    | none => { s with st := "ends" }
    | some r => if touch r then { s with st := "waits" } else { s with st := "lost" }
  | n + 1, s => match s.rws[s.pos]? with
    | none => { s with st := "ends" }
    | some r => if touch r then { s with st := "waits" } else led n (doRow s r)
def lead (s : HandS) : HandS := led 60 s
theorem doRow_rws (s : HandS) (r : Rw) : (doRow s r).rws = s.rws := by cases r <;> rfl
theorem doRow_sy (s : HandS) (r : Rw) : (doRow s r).sy.length ≤ s.sy.length + 1 := by cases r <;> simp [doRow]
theorem led_rws : ∀ (n : Nat) (s : HandS), (led n s).rws = s.rws
  | 0, s => by
    unfold led
    split
    · rfl
    · split <;> rfl
  | n + 1, s => by
    unfold led
    split
    · rfl
    · split
      · rfl
      · rw [led_rws, doRow_rws]
theorem led_sy : ∀ (n : Nat) (s : HandS), (led n s).sy.length ≤ s.sy.length + n
  | 0, s => by
    unfold led
    split
    · simp
    · split <;> simp
  | n + 1, s => by
    unfold led
    split
    · simp
    · split
      · simp
      · rename_i r _ _
        have := led_sy n (doRow s r)
        have := doRow_sy s r
        omega
/-- a hand that waits stands at a touch -/
def HOk (s : HandS) : Prop := s.st = "waits" → ∃ r, s.rws[s.pos]? = some r ∧ touch r = true
theorem ends_ne : (Str.ofString "ends") ≠ Str.ofString "waits" := by decide +kernel
theorem lost_ne : (Str.ofString "lost") ≠ Str.ofString "waits" := by decide +kernel
theorem led_ok : ∀ (n : Nat) (s : HandS), HOk (led n s)
  | 0, s => by
    unfold led HOk
    split
    · intro z; exact absurd z ends_ne
    · rename_i r e
      split
      · intro _; exact ⟨r, e, by assumption⟩
      · intro z; exact absurd z lost_ne
  | n + 1, s => by
    unfold led
    split
    · intro z; exact absurd z ends_ne
    · rename_i r e
      split
      · intro _; exact ⟨r, e, by assumption⟩
      · exact led_ok n _
def new (rws : List Rw) : HandS := ⟨rws, 0, List.replicate 8 0, [], "waits"⟩
/-! ### a works -/
structure WkS where
  (m : Nat) (ns : List Int) (hs : List HandS) (ts : List Int)
def cellR : Rw → Nat
  | .load _ c => c
  | .store c _ => c
  | .swap _ c _ => c
  | _ => 0
def wordR : Rw → Str
  | .load _ _ => "load"
  | .store _ _ => "store"
  | .swap _ _ _ => "swap"
  | .lett _ _ => "let"
  | .say _ => "say"
  | .go _ => "go"
  | .unl _ _ _ _ => "unless"
/-- what a touch reads, writes -/
def readR (ns : List Int) : Rw → Option Int
  | .load _ c => ns[c]?
  | .swap _ c _ => ns[c]?
  | _ => none
def writR (bs : List Int) : Rw → Option Int
  | .store _ e => some (vx bs e)
  | .swap _ _ e => some (vx bs e)
  | _ => none
def oV : Option Int → V
  | none => .non
  | some i => .int i
def oD : Option Int → PyData
  | none => .none
  | some i => .int i
def touchV (ns bs : List Int) (r : Rw) : List V := [.str (wordR r), .int (cellR r), oV (readR ns r), oV (writR bs r)]
def boxesR (ns bs : List Int) : Rw → List Int
  | .load b c => bs.set b ((ns[c]?).getD 0)
  | .swap b c _ => bs.set b ((ns[c]?).getD 0)
  | _ => bs
def cellsR (ns bs : List Int) : Rw → List Int
  | .store c e => ns.set c (vx bs e)
  | .swap _ c e => ns.set c (vx bs e)
  | _ => ns
def goneS (ns : List Int) (s : HandS) (r : Rw) : HandS := lead { s with pos := s.pos + 1, bs := boxesR ns s.bs r }
def turnS (S : WkS) (k : Nat) : WkS := match S.hs[k]? with
  | none => S
  | some s => match s.rws[s.pos]? with
    | none => S
    | some r => { S with ns := cellsR S.ns s.bs r, hs := S.hs.set k (goneS S.ns s r), ts := S.ts ++ [(k : Int)] }
def begS (m : Nat) (ns : List Int) (rws : List (List Rw)) : WkS := ⟨m, ns, rws.map fun r => lead (new r), []⟩
end Prf
namespace L2
open PySem Prf
theorem Dats.kp {H H' : Hp} {vs : List V} {rws : List Rw} (d : Dats H vs (rws.map rwD)) (t : ∀ x xs, H x = some (.tup xs) → H' x = some (.tup xs)) : Dats H' vs (rws.map rwD) := d.keep t _ (imms_map rwD imm_rw rws)
end L2
set_option Elab.async false
set_option linter.all false
set_option maxRecDepth 100000
set_option maxHeartbeats 4000000
namespace L2
open PySem PySem.Spec PyProof.Rows
section
variable {X : Cx} {k : Nat} {C : Addr} {sp : Sp}
end
/-- an own class, as isinstance asks for it -/
structure IsO (K : PySem.W.Frag) (mg : Str → Option Value) (C : Addr) (nm : Str) : Prop where
  bd : mg nm = some (.ref C)
  ha : PySem.W.findIn K (.ref C) "__class__" = some (some (.builtin "object.__class__"))
  hn : PySem.W.specialIn K (.builtin "object.__class__") "__get__" = some (some (.builtin "getset_descriptor.__get__"))
  ht : PySem.W.takesIn K (.builtin "object.__class__") = some true
  hm : PySem.W.mroIn K C (.type "object") = some true
end L2
set_option Elab.async false
set_option linter.all false
set_option maxRecDepth 100000
set_option maxHeartbeats 4000000
namespace L2
open PySem PySem.Spec PyProof.Rows
/-! ### zip of two tuples -/
section
variable {prog : Program} {w : World} {A : Around} {E : Value → Shared → Prop} {s : Shared}
theorem nxT {it t : Addr} {i : Nat} {its : Array Value} {x : Value} {Q : Value → Shared → Prop} (hi : s.heap.IsTupleIter it t i) (ht : s.heap.IsTuple t its) (hx : its[i]? = some x)
    (k : ∀ h', h'.IsTupleIter it t (i + 1) → Heap.SameBut it s.heap h' → Q x { s with heap := h' }) : wpAny (model prog w) A (Builtin.SmallTypes.nextOf (.ref it)) Q E s := by
  obtain ⟨ob, e1, e2, e3⟩ := id hi; obtain ⟨ot, f1, _, nn, f3⟩ := ht
  unfold Builtin.SmallTypes.nextOf
  refine wpAny_bind (wpAny_callSpecial?_slot (name := Str.ofString "__next__") hi.typeIs PySem.F.slot_tuple_iterator_next (wpAny_call_entry PySem.F.slot_tuple_iterator_next hi.typeIs PySem.F.entry_tuple_iterator_next ?_ (PySem.F.args_tuple_iterator_next_1 _)))
  show wpAny _ _ (field (.ref it) 0 >>= _) _ _ s; refine wpAny_bind (wpAny_field e1 e3 (x := .ref t) rfl ?_)
  show wpAny _ _ (if (Value.ref t == Value.none) = true then _ else _) _ _ s; rw [if_neg (show ¬ ((Value.ref t == Value.none) = true) from Bool.false_ne_true)]
  show wpAny _ _ (field (.ref it) 1 >>= _) _ _ s; refine wpAny_bind (wpAny_field e1 e3 (x := .int i 0) rfl ?_)
  show wpAny _ _ (seqItems? (.ref t) >>= _) _ _ s; refine wpAny_bind (wpAny_seqItems f1 f3 ?_)
  simp only [Int.toNat_natCast, hx]; refine wpAny_bind (wpAny_setField e1 e3 (by simp) (wpAny_pure ⟨x, rfl, wpAny_pure (k _ ?_ (Heap.SameBut.update ..))⟩))
  refine ⟨_, Heap.get?_update_self _ e1 (Obj.isFreed_of_fields (Obj.data_mapFields e3 _)), (Obj.cls_mapFields ..).trans e2, ?_⟩
  rw [Obj.data_mapFields e3]; simp [rawInt]
theorem nxTe {it t : Addr} {i : Nat} {its : Array Value} {Q : Value → Shared → Prop} (hh : A.handled = none) (hi : s.heap.IsTupleIter it t i) (ht : s.heap.IsTuple t its) (hx : its[i]? = none)
    (k : ∀ h' e, Heap.ExtBut it s.heap h' → (∃ o, h'.get? e = some o ∧ o.cls = .type "StopIteration") → E (.ref e) { s with heap := h' }) : wpAny (model prog w) A (Builtin.SmallTypes.nextOf (.ref it)) Q E s := by
  obtain ⟨ob, e1, e2, e3⟩ := id hi; obtain ⟨ot, f1, _, nn, f3⟩ := ht
  unfold Builtin.SmallTypes.nextOf
  refine wpAny_bind (wpAny_callSpecial?_slot (name := Str.ofString "__next__") hi.typeIs PySem.F.slot_tuple_iterator_next (wpAny_call_entry PySem.F.slot_tuple_iterator_next hi.typeIs PySem.F.entry_tuple_iterator_next ?_ (PySem.F.args_tuple_iterator_next_1 _)))
  show wpAny _ _ (field (.ref it) 0 >>= _) _ _ s; refine wpAny_bind (wpAny_field e1 e3 (x := .ref t) rfl ?_)
  show wpAny _ _ (if (Value.ref t == Value.none) = true then _ else _) _ _ s; rw [if_neg (show ¬ ((Value.ref t == Value.none) = true) from Bool.false_ne_true)]
  show wpAny _ _ (field (.ref it) 1 >>= _) _ _ s; refine wpAny_bind (wpAny_field e1 e3 (x := .int i 0) rfl ?_)
  show wpAny _ _ (seqItems? (.ref t) >>= _) _ _ s; refine wpAny_bind (wpAny_seqItems f1 f3 ?_)
  simp only [Int.toNat_natCast, hx]; refine wpAny_bind (wpAny_rule (wpAny_bind (wpAny_setField e1 e3 (by simp) ?_)))
  show wpAny _ _ (newExc (.type "StopIteration") [] >>= _) _ _ _; refine wpAny_bind ?_; simp only [newExc, newTuple]
  refine wpAny_bind (wpAny_newObj_type ?_ (by size_fits)); refine wpAny_bind (m := firstArgMember _ _) (wpAny_of_eq (a := Value.none) (by first | rfl | (simp only [firstArgMember]; rfl)) ?_)
  refine wpAny_newObj_type ?_ (by size_fits); simp only [raiseNew]; refine wpAny_bind (wpAny_handled ?_)
  first | rw [show A.in1.handled = none from hh] | rw [hh]
  refine wpAny_bind (wpAny_pure (wpAny_throw (k _ _ (((Heap.SameBut.update ..).extBut.push _).push _) ⟨_, Heap.get?_push_size _ rfl, rfl⟩)))
theorem ztNext {z TI TO i1 i2 l1 l2 : Addr} {k1 k2 : Nat} {xs ys : Array Value} {x y a b : Value} {Q : Option Value → Shared → Prop} (D : ZipApart z TI TO i1 i2 l1 l2) (hz : IsZip s.heap z TI TO .none) (hI : IsPair s.heap TI (.ref i1) (.ref i2)) (hO : IsPair s.heap TO a b)
    (h1 : s.heap.IsTupleIter i1 l1 k1) (h2 : s.heap.IsTupleIter i2 l2 k2) (m1 : s.heap.IsTuple l1 xs) (m2 : s.heap.IsTuple l2 ys) (hx : xs[k1]? = some x) (hy : ys[k2]? = some y)
    (k : ∀ h', IsZip h' z TI TO (rawInt s.heap.objs.size) → IsPair h' TO x y → h'.IsTupleIter i1 l1 (k1 + 1) → h'.IsTupleIter i2 l2 (k2 + 1) → IsPair h' s.heap.objs.size x y → h'.objs.size = s.heap.objs.size + 1 → (∀ c o, c ≠ z → c ≠ TO → c ≠ i1 → c ≠ i2 → s.heap.get? c = some o → h'.get? c = some o) → Q (some (.ref s.heap.objs.size)) { s with heap := h' }) :
    wpAny (model prog w) A (pyNext (.ref z)) Q E s := by
  have tz : s.TypeIs (.ref z) "zip" := ⟨_, hz, rfl⟩
  unfold pyNext; refine wpAny_bind (wpAny_attempt (wpAny_callSpecial?_slot (name := Str.ofString "__next__") tz PySem.F.slot_zip_next (wpAny_call_entry PySem.F.slot_zip_next tz PySem.F.entry_zip_next ?_ (PySem.F.args_zip_next_1 _))))
  show wpAny _ _ (field (.ref z) 2 >>= _) _ _ _; refine wpAny_bind (wpAny_field hz rfl (x := .bool false) rfl ?_)
  show wpAny _ _ (field (.ref z) 3 >>= _) _ _ _; refine wpAny_bind (wpAny_field hz rfl (x := .ref TI) rfl ?_); refine wpAny_bind (wpAny_seqItems hI rfl ?_)
  show wpAny _ _ (Builtin.SmallTypes.ownedTupleIsFree (.ref z) >>= _) _ _ _; refine wpAny_bind ?_; unfold Builtin.SmallTypes.ownedTupleIsFree
  refine wpAny_bind (wpAny_field hz rfl (x := .none) rfl (wpAny_pure ?_)); simp only [if_true]
  refine wpAny_bind (wpAny_rule (wpAny_bind (wpAny_field hz rfl (x := .ref TO) rfl ?_)))
  refine wpAny_bind (wpAny_setField_rec hz (by simp) fun g1 z1 s1 => ?_)
  replace z1 : IsZip g1 z TI TO .ellipsis := z1
  refine wpAny_bind ?_; simp only [List.zipIdx_cons, List.zipIdx_nil, List.forIn_cons, List.forIn_nil]
  refine wpAny_bind (wpAny_bind (wpAny_onRaise ?_)); show wpAny _ _ (Builtin.SmallTypes.nextOf (.ref i1) >>= _) _ _ _
  refine wpAny_bind (nxT (h1.extBut s1.extBut D.i1z) (m1.extBut s1.extBut D.l1z) hx fun g2 j1 s2 => wpAny_pure ?_)
  have O2 : IsPair g2 TO a b := s2.extBut _ _ D.TOi1 (s1.extBut _ _ D.TOz hO)
  refine wpAny_bind (wpAny_seqItems O2 rfl ?_); refine wpAny_bind (wpAny_updateSeq_pair O2 fun g3 O3 s3 => ?_)
  replace O3 : IsPair g3 TO x b := O3
  refine wpAny_bind (wpAny_letGo (wpAny_pure (wpAny_bind (wpAny_bind (wpAny_onRaise ?_))))); show wpAny _ _ (Builtin.SmallTypes.nextOf (.ref i2) >>= _) _ _ _
  refine wpAny_bind (nxT (((h2.extBut s1.extBut D.i2z).extBut s2.extBut D.i12.symm).extBut s3.extBut D.TOi2.symm) (((m2.extBut s1.extBut D.l2z).extBut s2.extBut D.l2i1).extBut s3.extBut D.l2TO) hy fun g4 j2 s4 => wpAny_pure ?_)
  have O4 : IsPair g4 TO x b := s4.extBut _ _ D.TOi2 O3
  refine wpAny_bind (wpAny_seqItems O4 rfl ?_); refine wpAny_bind (wpAny_updateSeq_pair O4 fun g5 O5 s5 => ?_)
  replace O5 : IsPair g5 TO x y := O5
  refine wpAny_bind (wpAny_letGo (wpAny_pure (wpAny_pure (wpAny_bind (wpAny_seqItems O5 rfl (wpAny_bind (wpAny_newTuple ?_)))))))
  have sz : g5.objs.size = s.heap.objs.size := by rw [s5.1, s4.1, s3.1, s2.1, s1.1]
  have z5 : IsZip g5 z TI TO .ellipsis := s5.extBut _ _ D.TOz.symm (s4.extBut _ _ D.i2z.symm (s3.extBut _ _ D.TOz.symm (s2.extBut _ _ D.i1z.symm z1)))
  have k5 : ∀ c o, c ≠ z → c ≠ TO → c ≠ i1 → c ≠ i2 → s.heap.get? c = some o → g5.get? c = some o := fun c o n1 n2 n3 n4 e => s5.extBut _ _ n2 (s4.extBut _ _ n4 (s3.extBut _ _ n2 (s2.extBut _ _ n3 (s1.extBut _ _ n1 e))))
  have p1 : g5.IsTupleIter i1 l1 (k1 + 1) := ((j1.extBut s3.extBut D.TOi1.symm).extBut s4.extBut D.i12).extBut s5.extBut D.TOi1.symm
  have p2 : g5.IsTupleIter i2 l2 (k2 + 1) := j2.extBut s5.extBut D.TOi2.symm
  have zlt : z < g5.objs.size := Heap.lt_size z5
  show wpAny _ _ (Builtin.SmallTypes.ownedTupleHandOut (.ref z) (.ref g5.objs.size) >>= _) _ _ _; refine wpAny_bind ?_; unfold Builtin.SmallTypes.ownedTupleHandOut
  have z6 : IsZip (g5.push { cls := .type "tuple", data := .seq #[x, y] }) z TI TO .ellipsis := Heap.get?_push_of_some _ z5
  refine wpAny_bind (wpAny_setField_rec z6 (by simp) fun g7 z7 s7 => ?_)
  replace z7 : IsZip g7 z TI TO (rawInt g5.objs.size) := z7
  refine wpAny_setField_rec z7 (by simp) fun g8 z8 s8 => ?_
  replace z8 : IsZip g8 z TI TO (rawInt g5.objs.size) := z8
  have up : ∀ c o, c ≠ z → g5.get? c = some o → g8.get? c = some o := fun c o n1 e => s8.extBut _ _ n1 (s7.extBut _ _ n1 (Heap.get?_push_of_some _ e))
  have t8 : IsPair g8 g5.objs.size x y := s8.extBut _ _ (Nat.ne_of_gt zlt) (s7.extBut _ _ (Nat.ne_of_gt zlt) (Heap.get?_push_size _ rfl))
  have e8 : g8.objs.size = g5.objs.size + 1 := by rw [s8.1, s7.1, Heap.size_push]
  rw [sz] at z8 t8 e8
  refine wpAny_pure ⟨_, rfl, wpAny_pure ?_⟩
  show Q (some (.ref g5.objs.size)) _
  rw [sz]
  refine k g8 z8 (up _ _ D.TOz O5) ?_ ?_ t8 e8 fun c o n1 n2 n3 n4 e => up c o n1 (k5 c o n1 n2 n3 n4 e)
  · obtain ⟨o, e, r⟩ := p1; exact ⟨o, up _ _ D.i1z e, r⟩
  · obtain ⟨o, e, r⟩ := p2; exact ⟨o, up _ _ D.i2z e, r⟩
theorem ztEnd {z TI TO i1 i2 l1 l2 : Addr} {k1 k2 : Nat} {xs ys : Array Value} {a b : Value} {Q : Option Value → Shared → Prop} (hh : A.handled = none) (D : ZipApart z TI TO i1 i2 l1 l2) (hz : IsZip s.heap z TI TO .none) (hI : IsPair s.heap TI (.ref i1) (.ref i2)) (hO : IsPair s.heap TO a b)
    (h1 : s.heap.IsTupleIter i1 l1 k1) (h2 : s.heap.IsTupleIter i2 l2 k2) (m1 : s.heap.IsTuple l1 xs) (m2 : s.heap.IsTuple l2 ys) (hx : xs[k1]? = none)
    (k : ∀ h', (∀ c o, c ≠ z → c ≠ TO → c ≠ i1 → c ≠ i2 → s.heap.get? c = some o → h'.get? c = some o) → Q none { s with heap := h' }) : wpAny (model prog w) A (pyNext (.ref z)) Q E s := by
  have tz : s.TypeIs (.ref z) "zip" := ⟨_, hz, rfl⟩
  have stop : ∀ (h' : Heap) (e : Addr), (∀ c o, c ≠ z → c ≠ TO → c ≠ i1 → c ≠ i2 → s.heap.get? c = some o → h'.get? c = some o) → (∃ o, h'.get? e = some o ∧ o.cls = .type "StopIteration") → wpAny (model prog w) A (do if ← isInstance (.ref e) (.type "StopIteration") then pure none else throw (.ref e)) Q E { s with heap := h' } := fun h' e hk he => by
    obtain ⟨o, ho, hc⟩ := he
    exact wpAny_bind (wpAny_isInstance (T := "StopIteration") (b := true) ⟨o, ho, hc⟩ isSubtype_stop (wpAny_pure (k _ hk)))
  unfold pyNext; refine wpAny_bind (wpAny_attempt (wpAny_callSpecial?_slot (name := Str.ofString "__next__") tz PySem.F.slot_zip_next (wpAny_call_entry PySem.F.slot_zip_next tz PySem.F.entry_zip_next ?_ (PySem.F.args_zip_next_1 _))))
  show wpAny _ _ (field (.ref z) 2 >>= _) _ _ _; refine wpAny_bind (wpAny_field hz rfl (x := .bool false) rfl ?_)
  show wpAny _ _ (field (.ref z) 3 >>= _) _ _ _; refine wpAny_bind (wpAny_field hz rfl (x := .ref TI) rfl ?_); refine wpAny_bind (wpAny_seqItems hI rfl ?_)
  show wpAny _ _ (Builtin.SmallTypes.ownedTupleIsFree (.ref z) >>= _) _ _ _; refine wpAny_bind ?_; unfold Builtin.SmallTypes.ownedTupleIsFree
  refine wpAny_bind (wpAny_field hz rfl (x := .none) rfl (wpAny_pure ?_)); simp only [if_true]
  refine wpAny_bind (wpAny_rule (wpAny_bind (wpAny_field hz rfl (x := .ref TO) rfl ?_)))
  refine wpAny_bind (wpAny_setField_rec hz (by simp) fun g1 z1 s1 => ?_)
  replace z1 : IsZip g1 z TI TO .ellipsis := z1
  refine wpAny_bind ?_; simp only [List.zipIdx_cons, List.zipIdx_nil, List.forIn_cons, List.forIn_nil]
  refine wpAny_bind (wpAny_bind (wpAny_onRaise ?_)); show wpAny _ _ (Builtin.SmallTypes.nextOf (.ref i1) >>= _) _ _ _
  refine wpAny_bind (nxTe hh (h1.extBut s1.extBut D.i1z) (m1.extBut s1.extBut D.l1z) hx fun g2 e s2 he => ?_)
  obtain ⟨oe, hoe, hce⟩ := he
  have z2 : IsZip g2 z TI TO .ellipsis := s2 _ _ D.i1z.symm z1
  have nez : e ≠ z := fun q => by subst q; rw [z2] at hoe; cases hoe; simp at hce
  refine wpAny_setField_rec z2 (by simp) fun g3 _ s3 => ?_
  obtain st := stop g3 e (fun c o n1 _ n3 _ q => s3.extBut _ _ n1 (s2 _ _ n3 (s1.extBut _ _ n1 q))) ⟨oe, s3.extBut _ _ nez hoe, hce⟩
  exact st
end
end L2
set_option Elab.async false
set_option linter.all false
set_option maxRecDepth 100000
set_option maxHeartbeats 4000000
namespace L2
open PySem PySem.Spec PyProof.Rows
abbrev ztI (l : Addr) : Obj := { cls := .type "tuple_iterator", data := .fields #[.ref l, .int 0 0] }
abbrev zt3 (h : Heap) (l1 l2 : Addr) : Heap := ((h.push (ztI l1)).push (ztI l2)).push { cls := .type "tuple", data := .seq #[.ref h.objs.size, .ref (h.push (ztI l1)).objs.size] }
abbrev zt4 (h : Heap) (l1 l2 : Addr) : Heap := (zt3 h l1 l2).push { cls := .type "tuple", data := .seq #[.none, .none] }
abbrev zt5 (h : Heap) (l1 l2 : Addr) : Heap := (zt4 h l1 l2).push { cls := .type "zip", data := .fields #[.none, .bool false, .bool false, .ref ((h.push (ztI l1)).push (ztI l2)).objs.size, .ref (zt3 h l1 l2).objs.size] }
theorem ztNew (l1 l2 : Addr) (xs ys : Array Value) : Meets (Builtin.«zip.__new__» ⟨[.type "zip", .ref l1, .ref l2], []⟩) (fun _ R s => s.heap.IsTuple l1 xs ∧ s.heap.IsTuple l2 ys ∧ R (.ok (.ret (.ref (zt4 s.heap l1 l2).objs.size))) { s with heap := zt5 s.heap l1 l2 }) :=
  .of_wp fun prog w A R s h => by
    obtain ⟨hp, g, d, tk, os⟩ := s; obtain ⟨m1, m2, h⟩ := h
    have sub := sub_zip
    have M1 : Heap.IsTuple (Shared.heap ⟨hp, g, d, tk, os⟩) l1 xs := m1
    have M2 : Heap.IsTuple (Shared.heap ⟨hp.push { cls := .type "tuple_iterator", data := .fields #[.ref l1, .int 0 0] }, g, d, tk, os⟩) l2 ys := Heap.IsTuple.push m2 _
    wp_walk using wpAny_pyIter_tuple M1, wpAny_pyIter_tuple M2
    exact ⟨_, rfl, h⟩
section
variable {prog : Program} {w : World} {A : Around} {E : Value → Shared → Prop} {s : Shared}
theorem ztCall {l1 l2 : Addr} {xs ys : Array Value} {Q : Value → Shared → Prop} (m1 : s.heap.IsTuple l1 xs) (m2 : s.heap.IsTuple l2 ys)
    (k : ∀ h', IsZip h' (s.heap.objs.size + 4) (s.heap.objs.size + 2) (s.heap.objs.size + 3) .none → IsPair h' (s.heap.objs.size + 2) (.ref s.heap.objs.size) (.ref (s.heap.objs.size + 1)) → IsPair h' (s.heap.objs.size + 3) .none .none → h'.IsTupleIter s.heap.objs.size l1 0 → h'.IsTupleIter (s.heap.objs.size + 1) l2 0 →
      (∀ c o, s.heap.get? c = some o → h'.get? c = some o) → Q (.ref (s.heap.objs.size + 4)) { s with heap := h' }) : wpAny (model prog w) A (call (.type "zip") [.ref l1, .ref l2]) Q E s := by
  refine callType_new PySem.F.called_zip (by decide) (PySem.F.typeCall_zip_2 _ _) (PySem.F.newCall_zip_2 _ _) (fun obj => PySem.F.args_object_init_3 obj _ _) PySem.F.entry_zip_new (ztNew l1 l2 xs ys) ⟨m1, m2, ?_⟩
  have n1 : (s.heap.push (ztI l1)).objs.size = s.heap.objs.size + 1 := Heap.size_push ..
  have n2 : ((s.heap.push (ztI l1)).push (ztI l2)).objs.size = s.heap.objs.size + 2 := by rw [Heap.size_push, n1]
  have n3 : (zt3 s.heap l1 l2).objs.size = s.heap.objs.size + 3 := by rw [Heap.size_push, n2]
  have n4 : (zt4 s.heap l1 l2).objs.size = s.heap.objs.size + 4 := by rw [Heap.size_push, n3]
  have e5 : (zt5 s.heap l1 l2).get? (zt4 s.heap l1 l2).objs.size = some _ := Heap.get?_push_size _ rfl
  have e4 : (zt5 s.heap l1 l2).get? (zt3 s.heap l1 l2).objs.size = some _ := Heap.get?_push_of_some _ (Heap.get?_push_size _ rfl)
  have e3 : (zt5 s.heap l1 l2).get? ((s.heap.push (ztI l1)).push (ztI l2)).objs.size = some _ := Heap.get?_push_of_some _ (Heap.get?_push_of_some _ (Heap.get?_push_size _ rfl))
  have e2 : (zt5 s.heap l1 l2).get? (s.heap.push (ztI l1)).objs.size = some _ := Heap.get?_push_of_some _ (Heap.get?_push_of_some _ (Heap.get?_push_of_some _ (Heap.get?_push_size _ rfl)))
  have e1 : (zt5 s.heap l1 l2).get? s.heap.objs.size = some _ := Heap.get?_push_of_some _ (Heap.get?_push_of_some _ (Heap.get?_push_of_some _ (Heap.get?_push_of_some _ (Heap.get?_push_size _ rfl))))
  show _ ∧ _
  rw [n2, n3, n4] at e5
  rw [n1, n2] at e3
  rw [n3] at e4
  rw [n1] at e2
  rw [n4]
  refine ⟨⟨_, e5, rfl⟩, k _ e5 e3 e4 ⟨_, e1, rfl, rfl⟩ ⟨_, e2, rfl, rfl⟩ fun c o q => ?_⟩
  iterate 5 refine Heap.get?_push_of_some _ ?_
  exact q
end
def ItzT (K : PySem.W.Frag) (l1 l2 : Addr) : It :=
  ⟨fun i H => ∃ xs ys x y, SqT K H l1 xs ∧ SqT K H l2 ys ∧ xs[i]? = some x ∧ ys[i]? = some y,
   fun i H x H' => ∃ (p : Addr) (y z : V), x = .ref p ∧ H p = none ∧ (∀ xs, SqT K H l1 xs → xs[i]? = some y) ∧ (∀ ys, SqT K H l2 ys → ys[i]? = some z) ∧ H' = upd H p (.tup [y, z]),
   fun i H => ∃ xs ys, SqT K H l1 xs ∧ SqT K H l2 ys ∧ xs.length ≤ i⟩
theorem turn_zipT {P : Program} {w : World} {K : PySem.W.Frag} {elts : List Expr} {x1 : Nat} {pos : Pos} (z TI TO i1 i2 l1 l2 : Addr) (ap : ZipApart z TI TO i1 i2 l1 l2) : Turn P w K (.Tuple elts x1 pos) (ItzT K l1 l2) [z, TI, TO, i1, i2] z
    (fun i h => IsZip h z TI TO .none ∧ IsPair h TI (.ref i1) (.ref i2) ∧ (∃ a b, IsPair h TO a b) ∧ h.IsTupleIter i1 l1 i ∧ h.IsTupleIter i2 l2 i) where
  mem := by simp
  obj := fun i h st b hb => by
    obtain ⟨hz, hTI, ⟨a, c, hTO⟩, ⟨o1, h1, c1, d1⟩, ⟨o2, h2, c2, d2⟩⟩ := st
    have hb' : b = z ∨ b = TI ∨ b = TO ∨ b = i1 ∨ b = i2 := by simpa using hb
    rcases hb' with rfl | rfl | rfl | rfl | rfl
    · exact ⟨_, hz, fun v z => by cases z⟩
    · exact ⟨_, hTI, fun v z => by cases z⟩
    · exact ⟨_, hTO, fun v z => by cases z⟩
    · exact ⟨_, h1, fun v z => by rw [d1] at z; cases z⟩
    · exact ⟨_, h2, fun v z => by rw [d2] at z; cases z⟩
  keep := fun i h h' st k => by
    obtain ⟨hz, hTI, ⟨a, c, hTO⟩, ⟨o1, h1, c1, d1⟩, ⟨o2, h2, c2, d2⟩⟩ := st
    exact ⟨k z (by simp) _ hz, k TI (by simp) _ hTI, ⟨a, c, k TO (by simp) _ hTO⟩, ⟨o1, k i1 (by simp) _ h1, c1, d1⟩, ⟨o2, k i2 (by simp) _ h2, c2, d2⟩⟩
  item := by
    intro X hP hw hK hc i pins s σ H E I hf st hg
    subst hP hw hK
    obtain ⟨xs, ys, x, y, hq1, hq2, hx, hy⟩ := hg
    obtain ⟨its1, rv1, p1, hz1⟩ := I.tuple hq1
    obtain ⟨its2, rv2, p2, hz2⟩ := I.tuple hq2
    obtain ⟨u1, hu1, ru1⟩ := rv1.get hx
    obtain ⟨u2, hu2, ru2⟩ := rv2.get hy
    obtain ⟨hz, hTI, ⟨a, c, hTO⟩, hi1, hi2⟩ := st
    have zlt := Heap.lt_size hz
    have TIlt := Heap.lt_size hTI
    have TOlt := Heap.lt_size hTO
    have i1lt : i1 < s.heap.objs.size := by obtain ⟨o, ho, _⟩ := id hi1; exact Heap.lt_size ho
    have i2lt : i2 < s.heap.objs.size := by obtain ⟨o, ho, _⟩ := id hi2; exact Heap.lt_size ho
    refine ztNext ap hz hTI hTO hi1 hi2 (show s.heap.IsTuple l1 its1.toArray from p1) (show s.heap.IsTuple l2 its2.toArray from p2) (x := u1) (y := u2) (by simpa using hu1) (by simpa using hu2) fun h' hz' hTO' hi1' hi2' hnew hsz hk => ?_
    refine ⟨_, rfl, ?_⟩
    refine wpAny_letOwnedTupleGo_zip hz' fun h2 hz2' sb => ?_
    have hfr : H s.heap.objs.size = none := I.hok.fresh (Nat.le_refl _)
    have I0 : Inv X pins σ (upd H s.heap.objs.size (.tup [x, y])) { s with heap := s.heap.push { cls := .type "tuple", data := .seq #[u1, u2] } } :=
      I.laid (t' := s.toks) (fun b u e => Heap.get?_push_of_some _ e) (Nat.le_refl _) ⟨by show 2 ≤ sizeLine; decide, [u1, u2], .cons ru1 (.cons ru2 .nil), ⟨_, Heap.get?_push_size _ rfl, rfl, _, rfl⟩⟩
    have hf0 : ∀ b ∈ [z, TI, TO, i1, i2], FpOk X pins (upd H s.heap.objs.size (.tup [x, y])) b := fun b hb => by
      refine (hf b hb).upd ?_
      have hb' : b = z ∨ b = TI ∨ b = TO ∨ b = i1 ∨ b = i2 := by simpa using hb
      rcases hb' with rfl | rfl | rfl | rfl | rfl
      · exact Nat.ne_of_lt zlt
      · exact Nat.ne_of_lt TIlt
      · exact Nat.ne_of_lt TOlt
      · exact Nat.ne_of_lt i1lt
      · exact Nat.ne_of_lt i2lt
    have I1 := I0.turnedL (h' := h2) (t' := s.toks) hf0 (fun b o hb eb => by
      have b1 : b ≠ z := fun e => hb (by simp [e])
      have b2 : b ≠ TO := fun e => hb (by simp [e])
      have b3 : b ≠ i1 := fun e => hb (by simp [e])
      have b4 : b ≠ i2 := fun e => hb (by simp [e])
      rw [sb.2 b b1]
      rcases get_push rfl eb with ⟨rfl, rfl⟩ | eb
      · exact hnew
      · exact hk b o b1 b2 b3 b4 eb)
    refine ⟨.ref s.heap.objs.size, _, I1, rfl, ⟨s.heap.objs.size, x, y, rfl, hfr, fun ys hy => by rw [I.tuple_inj hy hq1]; exact hx, fun ys' hy' => by rw [I.tuple_inj hy' hq2]; exact hy, rfl⟩, ?_, fun b hb => (hf0 b hb).1⟩
    obtain ⟨o1, ho1, c1, d1⟩ := hi1'
    obtain ⟨o2, ho2, c2, d2⟩ := hi2'
    exact ⟨hz2', (sb.2 TI ap.TIz).trans (hk TI _ ap.TIz ap.TITO ap.TIi1 ap.TIi2 hTI), ⟨_, _, (sb.2 TO ap.TOz).trans hTO'⟩, ⟨o1, (sb.2 i1 ap.i1z).trans ho1, c1, d1⟩, ⟨o2, (sb.2 i2 ap.i2z).trans ho2, c2, d2⟩⟩
  done := by
    intro X hP hw hK hc i pins s σ H E I hf st hg
    subst hP hw hK
    obtain ⟨xs, ys, hq1, hq2, hx⟩ := hg
    obtain ⟨its1, rv1, p1, hz1⟩ := I.tuple hq1
    obtain ⟨its2, rv2, p2, hz2⟩ := I.tuple hq2
    obtain ⟨hz, hTI, ⟨a, c, hTO⟩, hi1, hi2⟩ := st
    have hl1 := rv1.length
    refine ztEnd (I.ok.hd hc) ap hz hTI hTO hi1 hi2 (show s.heap.IsTuple l1 its1.toArray from p1) (show s.heap.IsTuple l2 its2.toArray from p2) (by simp; omega) fun h' eb => ⟨rfl, I.turnedL (t' := s.toks) hf (fun b o hb e => eb b o (fun z => hb (by simp [z])) (fun z => hb (by simp [z])) (fun z => hb (by simp [z])) (fun z => hb (by simp [z])) e)⟩
  self := fun _ _ _ _ _ st h => wpAny_pyIter_zip st.1 h
section
variable {X : Cx}
/-- zip of two lists, or of two tuples -/
def iZipA (K : PySem.W.Frag) (ta : TA) : TI := fun σ H R => ta σ H fun vs H1 => ∃ l1 l2 xs ys, vs = [.ref l1, .ref l2] ∧ ((SqL K H1 l1 xs ∧ SqL K H1 l2 ys ∧ R (Itz K l1 l2) H1) ∨ (SqT K H1 l1 xs ∧ SqT K H1 l2 ys ∧ R (ItzT K l1 l2) H1))
theorem pi_zipA {K : PySem.W.Frag} {a b : Expr} {ta : TA} {p pos : Pos} {elts : List Expr} {x1 : Nat} {tpos : Pos} (hK : X.K = K) (hg : Gl X "zip") (hm : X.mg "zip" = none) (ha : PA X [a, b] ta) (hs : starEach [a, b] X.env = [(false, eval a X.env), (false, eval b X.env)] := by rfl) (hs2 : starEach [b] X.env = [(false, eval b X.env)] := by rfl) : PI X (.Tuple elts x1 tpos) (.Call (.Name "zip" p) [a, b] [] pos) (iZipA K ta) := by
  subst hK
  intro pins s σ H R I h
  refine Call_ (ld_blt I hg hm boot_zip (PyProof.Rows.callWith_type1 (thn (ha pos pins s σ H _ I h) fun us s1 ⟨vs, H1, I1, r1, q1⟩ => ?_) (by rw [hs, hs2]) (by rw [hs2]; rfl)))
  obtain ⟨l1, l2, xs, ys, e, q1⟩ := q1
  subst e
  obtain ⟨u1, us', rfl, r, rr⟩ : ∃ u1 us', us = u1 :: us' ∧ RelV (.ref l1) u1 ∧ Vals [.ref l2] us' := by
    cases r1 with
    | cons r rr => exact ⟨_, _, rfl, r, rr⟩
  obtain ⟨u2, rfl, r'⟩ := rr.one
  cases r
  cases r'
  have newB : ∀ b ∈ [s1.heap.objs.size + 4, s1.heap.objs.size + 2, s1.heap.objs.size + 3, s1.heap.objs.size, s1.heap.objs.size + 1], s1.heap.objs.size ≤ b := fun b hb => by
    have : b = s1.heap.objs.size + 4 ∨ b = s1.heap.objs.size + 2 ∨ b = s1.heap.objs.size + 3 ∨ b = s1.heap.objs.size ∨ b = s1.heap.objs.size + 1 := by simpa using hb
    rcases this with rfl | rfl | rfl | rfl | rfl
    · exact Nat.le_add_right _ _
    · exact Nat.le_add_right _ _
    · exact Nat.le_add_right _ _
    · exact Nat.le_refl _
    · exact Nat.le_add_right _ _
  rcases q1 with ⟨hq1, hq2, q⟩ | ⟨hq1, hq2, q⟩
  · obtain ⟨its1, rv1, pl1, hz1⟩ := I1.list hq1
    obtain ⟨its2, rv2, pl2, hz2⟩ := I1.list hq2
    have lt1 : l1 < s1.heap.objs.size := by obtain ⟨o, ho, _⟩ := pl1.isList; exact Heap.lt_size ho
    have lt2 : l2 < s1.heap.objs.size := by obtain ⟨o, ho, _⟩ := pl2.isList; exact Heap.lt_size ho
    refine call_zip_2 pl1.isList pl2.isList fun h' hZ hTI hTO hi1 hi2 hsz hk => ?_
    refine wpAny_pyIter_zip hZ ?_
    have I2 : Inv X pins σ H1 { s1 with heap := h' } := I1.kept (t' := s1.toks) hk
    exact ⟨s1.heap.objs.size + 4, [s1.heap.objs.size + 4, s1.heap.objs.size + 2, s1.heap.objs.size + 3, s1.heap.objs.size, s1.heap.objs.size + 1], _, _, H1, rfl, I2, turn_zip _ _ _ _ _ l1 l2 (zipApart_new lt1 lt2), ⟨hZ, hTI, ⟨_, _, hTO⟩, hi1, hi2⟩, fun b hb => I1.fpOk (newB b hb) (I1.hok.fresh (newB b hb)), q⟩
  · obtain ⟨its1, rv1, pl1, hz1⟩ := I1.tuple hq1
    obtain ⟨its2, rv2, pl2, hz2⟩ := I1.tuple hq2
    have m1 : s1.heap.IsTuple l1 its1.toArray := pl1
    have m2 : s1.heap.IsTuple l2 its2.toArray := pl2
    have lt1 : l1 < s1.heap.objs.size := by obtain ⟨o, ho, _⟩ := id m1; exact Heap.lt_size ho
    have lt2 : l2 < s1.heap.objs.size := by obtain ⟨o, ho, _⟩ := id m2; exact Heap.lt_size ho
    refine ztCall m1 m2 fun h' hZ hTI hTO hi1 hi2 hk => ?_
    refine wpAny_pyIter_zip hZ ?_
    have I2 : Inv X pins σ H1 { s1 with heap := h' } := I1.kept (t' := s1.toks) hk
    exact ⟨s1.heap.objs.size + 4, [s1.heap.objs.size + 4, s1.heap.objs.size + 2, s1.heap.objs.size + 3, s1.heap.objs.size, s1.heap.objs.size + 1], _, _, H1, rfl, I2, turn_zipT _ _ _ _ _ l1 l2 (zipApart_new lt1 lt2), ⟨hZ, hTI, ⟨_, _, hTO⟩, hi1, hi2⟩, fun b hb => I1.fpOk (newB b hb) (I1.hok.fresh (newB b hb)), q⟩
end
section
variable {K : PySem.W.Frag} {D : Addr} {xs : List V} {tc : TT} {te : TE} {Q : VK} {rest : St} {H1 : Hp}
theorem comp_valZT {l1 l2 : Addr} {ys : List V} {n : Nat} (hn1 : xs.length = n) (hn2 : ys.length = n) (f : Nat → Option V) (hD : H1 D = none) (hq1 : H1 l1 = some (.tup xs)) (hq2 : H1 l2 = some (.tup ys)) (hx : n ≤ 100000)
    (hs : ∀ i x y H (G : Hp → Prop) (F : VK), xs[i]? = some x → ys[i]? = some y → Same H1 H → (∀ H', Same H H' → f i = none → G H') → (∀ y H', Same H H' → f i = some y → F y H') → tc (some x :: some y :: rest) H fun b H3 => if b = true then te (some x :: some y :: rest) H3 F else G H3)
    (hd : ∀ H, Same H1 H → H D = some (.lst ((List.range n).filterMap f)) → Q (.ref D) H) : CompW (ItzT K l1 l2) (gTup K 2 (gCons (gName 0) (gCons (gName 1) gNil))) tc te Q D (none :: none :: rest) H1 := by
  refine ⟨fun i m σ H => m = n - i ∧ i ≤ n ∧ (∃ u v, σ = u :: v :: rest) ∧ Same H1 H ∧ H D = some (.lst ((List.range i).filterMap f)), ⟨n, by simp, Nat.zero_le _, ⟨none, none, rfl⟩, same_new hD, upd_same⟩, ?_⟩
  rintro i m σ H ⟨rfl, hi, ⟨u, v, rfl⟩, sm, e⟩
  by_cases hlt : i < n
  · have q1 : SqT K H l1 xs := SqT.of (sm _ _ hq1)
    have q2 : SqT K H l2 ys := SqT.of (sm _ _ hq2)
    have hx1 : xs[i]? = some (xs[i]'(by omega)) := List.getElem?_eq_getElem _
    have hy1 : ys[i]? = some (ys[i]'(by omega)) := List.getElem?_eq_getElem _
    refine .inr ⟨⟨xs, ys, _, _, q1, q2, hx1, hy1⟩, fun σ' H' => (∃ u v, σ' = u :: v :: rest) ∧ Same H1 H' ∧ H' D = some (.lst ((List.range (i + 1)).filterMap f)), fun σ' H' p' => ⟨n - (i + 1), by omega, rfl, hlt, p'⟩, ?_⟩
    rintro x H' ⟨p, y, z, rfl, hp, e1, e2, rfl⟩
    have sp := same_new (o := HO.tup [y, z]) hp
    refine ⟨p, [y, z], rfl, SqT.of upd_same, rfl, _, _, rfl, _, _, rfl, rfl, ?_⟩
    refine hs i y z _ _ _ (e1 _ q1) (e2 _ q2) (sm.trans sp) (fun H3 s3 ef => ⟨⟨_, _, rfl⟩, (sm.trans sp).trans s3, by rw [s3 _ _ (sp _ _ e), fm_succ, ef]; simp⟩) (fun y H4 s4 ef => ?_)
    refine ⟨_, s4 _ _ (sp _ _ e), ?_, ⟨_, _, rfl⟩, ((sm.trans sp).trans s4).newly hD, ?_⟩
    · have := fm_len f i
      rw [sizeLine_eq]; omega
    · rw [upd_same, fm_succ, ef]; rfl
  · have ei : i = n := by omega
    subst ei
    exact .inl ⟨⟨xs, ys, SqT.of (sm _ _ hq1), SqT.of (sm _ _ hq2), by omega⟩, hd H sm e⟩
end
end L2
set_option Elab.async false
set_option linter.all false
set_option maxRecDepth 100000
set_option maxHeartbeats 4000000
namespace Prf
open PySem L2
/-! ### numbers stay in their bounds -/
def inR (x : Int) : Prop := 0 ≤ x ∧ x < 1000
def allR (l : List Int) : Prop := ∀ x ∈ l, inR x
/-! ### what is told of a works, as data -/
theorem bxS_ok : ∀ b : Fin 8, PyData.strOk (bxS b.val) = true := by decide +kernel
theorem can_x1 {x : Ex1} (h : x1Ok x) : (x1D x).canLay0 = true ∧ (x1D x).depth ≤ 1 := by
  cases x with
  | num n => exact ⟨by show (PyData.strOk (Str.ofString "number") && (true && true)) = true; decide +kernel, by show (max 0 (max 0 0)) + 1 ≤ 1; decide⟩
  | box b =>
    refine ⟨?_, by show (max 0 (max 0 0)) + 1 ≤ 1; decide⟩
    show (PyData.strOk (Str.ofString "box") && (PyData.strOk (bxS b) && true)) = true
    rw [show PyData.strOk (bxS b) = true from bxS_ok ⟨b, h⟩]
    decide +kernel
theorem can_ex {e : Exx} (h : exOk e) : (exD e).canLay0 = true ∧ (exD e).depth ≤ 2 := by
  cases e with
  | one x => obtain ⟨a, b⟩ := can_x1 (x := x) h; exact ⟨a, by show (x1D x).depth ≤ 2; omega⟩
  | two p x y =>
    obtain ⟨a1, b1⟩ := can_x1 h.1
    obtain ⟨a2, b2⟩ := can_x1 h.2
    refine ⟨?_, ?_⟩
    · show (PyData.strOk (if p then Str.ofString "plus" else Str.ofString "minus") && (PyData.canLay0 (x1D x) && (PyData.canLay0 (x1D y) && true))) = true
      rw [a1, a2]; cases p <;> decide +kernel
    · show max 0 (max (x1D x).depth (max (x1D y).depth 0)) + 1 ≤ 2
      omega
theorem can_rw {m : Nat} {r : Rw} (h : rwOk m r) : (rwD r).canLay0 = true ∧ (rwD r).depth ≤ 3 := by
  cases r with
  | load b c =>
    refine ⟨?_, by show max 0 (max 0 (max 0 0)) + 1 ≤ 3; decide⟩
    show (PyData.strOk (Str.ofString "load") && (PyData.strOk (bxS b) && (true && true))) = true
    rw [show PyData.strOk (bxS b) = true from bxS_ok ⟨b, h.1⟩]; decide +kernel
  | store c e =>
    obtain ⟨a, d⟩ := can_ex h.2
    refine ⟨?_, ?_⟩
    · show (PyData.strOk (Str.ofString "store") && (true && (PyData.canLay0 (exD e) && true))) = true
      rw [a]; decide +kernel
    · show max 0 (max 0 (max (exD e).depth 0)) + 1 ≤ 3
      omega
  | swap b c e =>
    obtain ⟨a, d⟩ := can_ex h.2.2
    refine ⟨?_, ?_⟩
    · show (PyData.strOk (Str.ofString "swap") && (PyData.strOk (bxS b) && (true && (PyData.canLay0 (exD e) && true)))) = true
      rw [a, show PyData.strOk (bxS b) = true from bxS_ok ⟨b, h.1⟩]; decide +kernel
    · show max 0 (max 0 (max 0 (max (exD e).depth 0))) + 1 ≤ 3
      omega
  | lett b e =>
    obtain ⟨a, d⟩ := can_ex h.2
    refine ⟨?_, ?_⟩
    · show (PyData.strOk (Str.ofString "let") && (PyData.strOk (bxS b) && (PyData.canLay0 (exD e) && true))) = true
      rw [a, show PyData.strOk (bxS b) = true from bxS_ok ⟨b, h.1⟩]; decide +kernel
    · show max 0 (max 0 (max (exD e).depth 0)) + 1 ≤ 3
      omega
  | say e =>
    obtain ⟨a, d⟩ := can_ex (e := e) h
    refine ⟨?_, ?_⟩
    · show (PyData.strOk (Str.ofString "say") && (PyData.canLay0 (exD e) && true)) = true
      rw [a]; decide +kernel
    · show max 0 (max (exD e).depth 0) + 1 ≤ 3
      omega
  | go k => exact ⟨by show (PyData.strOk (Str.ofString "go") && (true && true)) = true; decide +kernel, by show max 0 (max 0 0) + 1 ≤ 3; decide⟩
  | unl q e f k =>
    obtain ⟨a1, b1⟩ := can_ex h.1
    obtain ⟨a2, b2⟩ := can_ex h.2
    refine ⟨?_, ?_⟩
    · show (PyData.strOk (Str.ofString "unless") && (PyData.strOk (if q then Str.ofString "=" else Str.ofString "<") && (PyData.canLay0 (exD e) && (PyData.canLay0 (exD f) && (true && true))))) = true
      rw [a1, a2]; cases q <;> decide +kernel
    · show max 0 (max 0 (max (exD e).depth (max (exD f).depth (max 0 0)))) + 1 ≤ 3
      omega
def intsD (l : List Int) : PyData := .list (l.map PyData.int)
theorem can_ints (l : List Int) : (intsD l).canLay0 = true ∧ (intsD l).depth ≤ 1 := ⟨canAll_map PyData.int l fun _ _ => rfl, by
  have := depthAll_map PyData.int 0 l fun _ _ => by show 0 ≤ 0; decide
  show PyData.depthAll (l.map PyData.int) + 1 ≤ 1
  omega⟩
def rowsD (rws : List Rw) : PyData := .list (rws.map rwD)
theorem can_rows {m : Nat} {rws : List Rw} (h : ∀ r ∈ rws, rwOk m r) : (rowsD rws).canLay0 = true ∧ (rowsD rws).depth ≤ 4 := ⟨canAll_map rwD rws fun r hr => (can_rw (h r hr)).1, by
  have := depthAll_map rwD 3 rws fun r hr => (can_rw (h r hr)).2
  show PyData.depthAll (rws.map rwD) + 1 ≤ 4
  omega⟩
mutual
theorem eqv_self : ∀ d : PyData, d.canLay0 = true → PyData.eqv d d = true
  | .none, _ => rfl
  | .bool b, _ => by simp [PyData.eqv]
  | .int i, _ => by simp [PyData.eqv]
  | .str x, _ => by simp [PyData.eqv]
  | .list ds, h => by simp only [PyData.eqv]; exact eqv_selfs ds (by simpa [PyData.canLay0] using h)
  | .tuple ds, h => by simp only [PyData.eqv]; exact eqv_selfs ds (by simpa [PyData.canLay0] using h)
  | .dict _, h => by simp [PyData.canLay0] at h
theorem eqv_selfs : ∀ ds : List PyData, PyData.canLayAll0 ds = true → PyData.eqvAll ds ds = true
  | [], _ => rfl
  | d :: ds, h => by
    simp only [PyData.canLayAll0, Bool.and_eq_true] at h
    simp only [PyData.eqvAll, Bool.and_eq_true]
    exact ⟨eqv_self d h.1, eqv_selfs ds h.2⟩
end
theorem eqv_sh {d : PyData} (h : SeqAt.shaped d = true) : PyData.eqv d d = true := by
  unfold SeqAt.shaped at h
  rw [Bool.and_eq_true] at h
  exact eqv_self d h.1
/-! ### neighbours exchanged -/
def isLoad : Rw → Bool
  | .load _ _ => true
  | _ => false
def apart (r q : Rw) : Prop := cellR r ≠ cellR q ∨ (isLoad r = true ∧ isLoad q = true)
theorem turnS_at {S : WkS} {k : Nat} {s : HandS} {r : Rw} (es : S.hs[k]? = some s) (er : s.rws[s.pos]? = some r) : turnS S k = { S with ns := cellsR S.ns s.bs r, hs := S.hs.set k (goneS S.ns s r), ts := S.ts ++ [(k : Int)] } := by
  unfold turnS
  simp only [es, er]
end Prf
set_option Elab.async false
set_option linter.all false
set_option maxRecDepth 100000
set_option maxHeartbeats 4000000
namespace L2
open PySem
/-! ### what is new at a heap -/
def nw (H H' : Hp) : Hp := fun x => match H x with
  | none => H' x
  | some _ => none
section
variable {K : PySem.W.Frag} {a D : Addr} {xs : List V} {te : TE} {Q : VK} {rest : St} {H1 : Hp}
end
end L2
set_option Elab.async false
set_option linter.all false
set_option maxRecDepth 100000
set_option maxHeartbeats 4000000
namespace Prf
open PySem L2
/-! ### runs, told touch by touch, and their other orders -/
structure Tc where
  (k : Nat) (r : Rw) (rd wr : Option Int)
def AtT (S : WkS) (t : Tc) : Prop := ∃ s, S.hs[t.k]? = some s ∧ s.st = "waits" ∧ s.rws[s.pos]? = some t.r ∧ t.rd = readR S.ns t.r ∧ t.wr = writR s.bs t.r
def Run : WkS → List Tc → WkS → Prop
  | S, [], S' => S' = S
  | S, t :: l, S' => AtT S t ∧ Run (turnS S t.k) l S'
theorem AtT.turn {S : WkS} {t : Tc} (h : AtT S t) : ∃ s, S.hs[t.k]? = some s ∧ s.rws[s.pos]? = some t.r ∧ turnS S t.k = { S with ns := cellsR S.ns s.bs t.r, hs := S.hs.set t.k (goneS S.ns s t.r), ts := S.ts ++ [(t.k : Int)] } := by
  obtain ⟨s, h1, _, h3, _⟩ := h
  exact ⟨s, h1, h3, turnS_at h1 h3⟩
theorem Run.det : ∀ {l : List Tc} {S T T' : WkS}, Run S l T → Run S l T' → T = T'
  | [], S, T, T', h, h' => by
    have h : T = S := h
    have h' : T' = S := h'
    rw [h, h']
  | t :: l, S, T, T', h, h' => Run.det h.2 h'.2
theorem Run.app : ∀ {p q : List Tc} {S S' : WkS}, Run S (p ++ q) S' ↔ ∃ T, Run S p T ∧ Run T q S'
  | [], q, S, S' => ⟨fun h => ⟨S, rfl, h⟩, fun ⟨T, h1, h2⟩ => by have h1 : T = S := h1; rw [h1] at h2; exact h2⟩
  | t :: p, q, S, S' => by
    constructor
    · rintro ⟨h1, h2⟩
      obtain ⟨T, a, b⟩ := Run.app.mp h2
      exact ⟨T, ⟨h1, a⟩, b⟩
    · rintro ⟨T, ⟨h1, a⟩, b⟩
      exact ⟨h1, Run.app.mpr ⟨T, a, b⟩⟩
/-- touches that may not be exchanged -/
def stepT (x y : Tc) : Prop := x.k = y.k ∨ ¬ apart x.r y.r
end Prf
set_option Elab.async false
set_option linter.all false
set_option maxRecDepth 100000
set_option maxHeartbeats 4000000
namespace L2
open PySem PySem.Spec PyProof.Rows
/-! ### defs with defaults: from which nothing leaves, called with the last ones left out, or the last one by its name -/
section
variable {P : Program} {w : World} {K : PySem.W.Frag} {mg : Str → Option Value} {base : Heap}
/-- dvs: the values of the last defaults, left out -/
def FnAtD (P : Program) (w : World) (K : PySem.W.Frag) (mg : Str → Option Value) (base : Heap) (k : Nat) (x : Str) (ps : List Str) (dvs : List V) (sp : Sp) : Prop :=
  ∃ f fd ds, FnOk P w K mg base (CX1 P w) k f fd ps sp ∧ mg x = some (.ref f) ∧ PySem.W.keepIn K (.ref f) = true ∧ Binds K fd ps ds ∧ Vals dvs ds
/-- the last parameter by its name -/
def FnAtK (P : Program) (w : World) (K : PySem.W.Frag) (mg : Str → Option Value) (base : Heap) (k : Nat) (x : Str) (ps : List Str) (kn : Str) (sp : Sp) : Prop :=
  ∃ f fd, FnOk P w K mg base (CX1 P w) k f fd ps sp ∧ mg x = some (.ref f) ∧ PySem.W.keepIn K (.ref f) = true ∧
    ∀ (s : Shared) (us : List Value) (z : Value), K.In s.heap → (us ++ [z]).length = ps.length → BindsTo s fd ⟨us, [(kn, z)]⟩ (ps.zip (us ++ [z]))
end
section
variable {X : Cx} {k : Nat} {x kn : Str} {ps : List Str} {sp : Sp} {dvs : List V} {e ke : Expr} {es : List Expr} {te : TE} {t : TA} {p pos kpos : Pos} {E : St → XK}
def tCallD (sp : Sp) (dvs : List V) (E : St → XK) (t : TA) : TE := fun σ H Q => t σ H fun vs H1 => sp (vs ++ dvs) H1 Q (E σ)
theorem pe_fnD (F : FnAtD X.prog X.w X.K X.mg X.base k x ps dvs sp) (hx : X.ex = []) (R : Rz X E) (hr : Room k X.A) (hg : Gl X x) (ha : PA X (e :: es) t) (hd : (x == ("__debug__" : Str)) = false := by decide)
    (he : starEach (e :: es) X.env = (false, eval e X.env) :: starEach es X.env := by rfl) (hpl : (backTo pos (starEach es X.env)).any (·.1) = false := by rfl) :
    PE X (.Call (.Name x p) (e :: es) [] pos) (tCallD sp dvs E t) := by
  obtain ⟨f, fd, ds, G, hm, hk, hb, hv⟩ := F
  intro pins s σ H Q I h
  refine wpAny_Call_Name_kw (ld_glob I hg hm ?_ hd)
  refine PySem.W.callWith_K (h₀ := X.base) I.ok.mod.kin hk (thn (ha pos pins s σ H _ I h) fun us s1 ⟨vs, H1, I1, r, q⟩ => ⟨I1.kIn, ?_⟩) he hpl
  have rv := r.append hv
  have hl : (us ++ ds).length = ps.length := by rw [← rv.length]; exact G.len _ _ _ _ q
  refine wpAny_call (codeAny_mono (G.run X.A X.stack s1 H1 ⟨us, []⟩ (us ++ ds) (vs ++ dvs) Q (E σ) hr I1.env0 (hb s1 us I1.kIn hl) rv q) fun res s' hq => ?_)
  match res, hq with
  | .error ev, hq => exact passes1 hx R I1 hq
  | .ok (.ret u), hq => exact I1.after hq
def tCallKw (sp : Sp) (E : St → XK) (t : TA) (te : TE) : TE := fun σ H Q => t σ H fun vs H1 => te σ H1 fun z H2 => ∃ z', [z] = [z'] ∧ sp (vs ++ [z']) H2 Q (E σ)
theorem pe_fnKw (F : FnAtK X.prog X.w X.K X.mg X.base k x ps kn sp) (hx : X.ex = []) (R : Rz X E) (hr : Room k X.A) (hg : Gl X x) (ha : PA X (e :: es) t) (hk : PE X ke te) (hdb : (x == ("__debug__" : Str)) = false := by decide)
    (hall : (backToKw pos (keywordEach [⟨some kn, ke, kpos⟩] X.env)).all (·.1.isSome) = true := by rfl) (hks : (backToKw pos (keywordEach [⟨some kn, ke, kpos⟩] X.env)).filterMap (·.1) = [kn] := by rfl)
    (he : starEach (e :: es) X.env = (false, eval e X.env) :: starEach es X.env := by rfl)
    (hpl : ((backTo pos (starEach (e :: es) X.env)).any (·.1) || (backToKw pos (keywordEach [⟨some kn, ke, kpos⟩] X.env)).any (·.1.isNone)) = false := by rfl) :
    PE X (.Call (.Name x p) (e :: es) [⟨some kn, ke, kpos⟩] pos) (tCallKw sp E t te) := by
  obtain ⟨f, fd, G, hm, hkp, hb⟩ := F
  intro pins s σ H Q I h
  refine wpAny_Call_Name_kw (ld_glob I hg hm ?_ hdb)
  refine PySem.W.callWith_KW (h₀ := X.base) I.ok.mod.kin hkp hall (thn (ha pos pins s σ H _ I h) fun us s1 ⟨vs, H1, I1, r, q⟩ => ?_) hpl he
  refine thn ((pk_cons (nm := some kn) (kpos := kpos) hk pk_nil) pos pins s1 σ H1 (fun zs H2 => ∃ z', zs = [z'] ∧ sp (vs ++ [z']) H2 Q (E σ)) I1 q) fun ws s2 ⟨zs, H2, I2, rz, z', ez, q2⟩ => ⟨I2.kIn, ?_⟩
  subst ez
  obtain ⟨z, rfl, rz1⟩ := rz.one
  rw [hks]
  have rv := r.append rz
  have hl : (us ++ [z]).length = ps.length := by rw [← rv.length]; exact G.len _ _ _ _ q2
  refine wpAny_call (codeAny_mono (G.run X.A X.stack s2 H2 ⟨us, [(kn, z)]⟩ (us ++ [z]) (vs ++ [z']) Q (E σ) hr I2.env0 (hb s2 us z I2.kIn hl) rv q2) fun res s' hq => ?_)
  match res, hq with
  | .error ev, hq => exact passes1 hx R I2 hq
  | .ok (.ret u), hq => exact I2.after hq
end
end L2
set_option Elab.async false
set_option linter.all false
set_option maxRecDepth 100000
set_option maxHeartbeats 4000000
namespace L2
open PySem PySem.Spec PyProof.Rows
/-! ### isinstance(x, (t1, t2)) of plain data, texts and None too -/
section
variable {X : Cx} {K : PySem.W.Frag}
inductive PlU (H : Hp) : V → Value → Prop where
  | of {v : V} {t : Value} (h : PlT H v t) : PlU H v t
  | str (y : Str) : PlU H (.str y) (.type "str")
  | non : PlU H .non (.type "NoneType")
def rIsiU (K : PySem.W.Frag) : List V → Hp → VK → Prop := fun xs H Q => ∃ (x : V) (t : Value) (p : Addr) (ns : List String) (b : Bool), xs = [x, .ref p] ∧ PlU H x t ∧ H p = some (.tup (ns.map V.ty)) ∧ PySem.W.kitAny K t (ns.map Value.type) = some b ∧ Q (.bl b) H
theorem call_isiUK (hk : X.K = K) : CallR X (.builtin "isinstance") (rIsiU K) := by
  intro pins s σ H xs us Q I r h
  obtain ⟨x, t, p, ns, b, rfl, ty, hp, e, q⟩ := h
  cases ty with
  | of h => exact call_isiTK hk pins s σ H _ us Q I r ⟨x, t, p, ns, b, rfl, h, hp, e, q⟩
  | str y =>
    subst hk
    obtain ⟨u, w', rfl, r1, r2⟩ := vals2 r
    cases (show w' = Value.ref p from r2)
    obtain ⟨its, rv, ⟨o, ho, hc, m, hd⟩, hz⟩ := I.tuple (SqT.of hp)
    have ei := vals_types rv
    subst ei
    obtain ⟨c0, d0, dt, sl⟩ := o
    simp only at hc hd
    subst hc hd
    obtain ⟨t, q1⟩ := (show ∃ t, u = Value.str y t from r1)
    cases q1
    exact PySem.W.kia_tup PySem.W.kitx_str I.kIn True.intro ho e (fun z => nomatch z) fun tk => ⟨.bl b, H, I.tok _, rfl, q⟩
  | non =>
    subst hk
    obtain ⟨u, w', rfl, r1, r2⟩ := vals2 r
    cases (show w' = Value.ref p from r2)
    obtain ⟨its, rv, ⟨o, ho, hc, m, hd⟩, hz⟩ := I.tuple (SqT.of hp)
    have ei := vals_types rv
    subst ei
    obtain ⟨c0, d0, dt, sl⟩ := o
    simp only at hc hd
    subst hc hd
    cases (show u = Value.none from r1)
    exact PySem.W.kia_tup PySem.W.kitx_none I.kIn True.intro ho e (fun z => nomatch z) fun tk => ⟨.bl b, H, I.tok _, rfl, q⟩
theorem any_lt_str (K : PySem.W.Frag) : PySem.W.kitAny K (.type "str") (["list", "tuple"].map Value.type) = some false := by kernel_rfl
theorem any_lt_non (K : PySem.W.Frag) : PySem.W.kitAny K (.type "NoneType") (["list", "tuple"].map Value.type) = some false := by kernel_rfl
end
end L2
set_option Elab.async false
set_option linter.all false
set_option maxRecDepth 100000
set_option maxHeartbeats 4000000
namespace L2
open PySem PySem.Spec PyProof.Rows
theorem exc_self {K : PySem.W.Frag} {C : Addr} {bmB : List Value} {newId : String} (q : PySem.W.excIn K C bmB newId = true) : PySem.W.subIn K (.ref C) (.ref C) = some true := by
  unfold PySem.W.excIn at q
  split at q
  · rename_i d0 cd sl lk
    split at q
    · rename_i C1 tl a0 a1 a2 a3 nn a5 em es
      simp only [Bool.and_eq_true, beq_iff_eq] at q
      obtain ⟨⟨⟨⟨⟨e1, _⟩, _⟩, _⟩, _⟩, _⟩ := q
      show PySem.W.mroIn K C (.ref C) = some true
      unfold PySem.W.mroIn PySem.W.clsIn
      rw [lk]
      show (if cd.mro.isEmpty then none else some (cd.mro.contains (.ref C))) = some true
      rw [em, e1]
      simp
    · cases q
  · cases q
/-! ### try with several clauses, none of them with a name -/
def pickH (K : PySem.W.Frag) (C : Addr) : List (Addr × TS) → TS
  | [] => fun _ _ _ => False
  | (Dc, th) :: ts => fun D σ H => (PySem.W.subIn K (.ref C) (.ref Dc) = some true ∧ th D σ H) ∨ (PySem.W.subIn K (.ref C) (.ref Dc) = some false ∧ pickH K C ts D σ H)
def tTryN (K : PySem.W.Frag) (ts : List (Addr × TS)) (tb : (St → XK) → TS) : TS := fun D σ H =>
  tb (fun σ1 cls dx H1 => ∃ C, cls = .ref C ∧ pickH K C ts D σ1 H1) D σ H
inductive PH (X : Cx) : List ExceptHandler → List (Addr × TS) → Prop where
  | nil : PH X [] []
  | cons {cn : Str} {cp hpos : Pos} {b0 : Stmt} {suite : List Stmt} {Dc : Addr} {th : TS} {hs : List ExceptHandler} {ts : List (Addr × TS)} (hg : Gl X cn) (hm : X.mg cn = some (.ref Dc)) (hD : XHd X.K Dc) (hh : ∀ e, PSs (cxHand X e) (b0 :: suite) th) (hd : (cn == ("__debug__" : Str)) = false) (r : PH X hs ts) : PH X (.ExceptHandler (some (.Name cn cp)) none (b0 :: suite) hpos :: hs) ((Dc, th) :: ts)
section
variable {X : Cx} {body : List Stmt} {h0 : ExceptHandler} {hs : List ExceptHandler} {ts : List (Addr × TS)} {tb : (St → XK) → TS} {pos : Pos}
theorem ps_tryN (hc : X.calm = true) (hx : X.ex = []) (hst : X.stack = X.env :: X.outer) (hfm : X.env.frame = some X.env.locals)
    (hb : ∀ (pn : List (Addr × Obj)) (xe : Value → Shared → Prop) (E : St → XK), PassesOwn (model X.prog X.w) X.A X.env xe → Rz { X with pn := pn, xe := xe } E → PSs { X with pn := pn, xe := xe } body (tb E))
    (hp : PH X (h0 :: hs) ts) :
    PS X (.Try body (h0 :: hs) [] [] pos) (tTryN X.K ts tb) := by
  intro pins s σ H D I h
  refine wpAny_Try_except ?_
  refine wpAny_mono (hb (X.pn ++ pins) (fun e s₁ => wpAny (model X.prog X.w) X.A (noteFrame e X.env) (fun _ s₂ => wpAny (model X.prog X.w) X.A (setFlight e none) (fun _ s₃ => wpAny (model X.prog X.w) X.A (handleBy e X.env (h0 :: hs)) (SP X pins D) X.xe s₃) X.xe s₂) X.xe s₁) (fun σ1 cls dx H1 => ∃ C, cls = .ref C ∧ pickH X.K C ts D σ1 H1)
    PassesOwn.looking ?_ [] s σ H D (I.toTry _) h) (fun f s1 q => ?_) fun _ _ q => q
  · intro pins' σ1 H1 s1 e cls dx fl hfl I1 fe x hE
    obtain ⟨C, rfl, hth⟩ := hE
    have lo1 : ∀ b, (b = e ∨ (XFp (cxTry X pins X.xe) pins' H1 b ∨ s1.heap.get? b = none)) → XFp (cxTry X pins X.xe) pins' H1 b ∨ s1.heap.get? b = none := fun b z => z.elim (fun z => .inl (by rw [z]; exact fe)) fun z => z
    have hfr : X.A.frames = some (X.env :: X.outer) := by rw [← hst]; exact I.ok.frames
    have hff : s1.heap.FunFrames X.base (X.env :: X.outer) := by rw [← hst]; exact I1.stack
    refine xnote (base := X.base) (lo := fun T => XFp (cxTry X pins X.xe) pins' H1 T ∨ s1.heap.get? T = none) hfl hfr hff hfm (x.imp fun T _ z => .inl z) (fun T z => .inr z) fun h1 n1 x1 => ?_
    refine xland (fr := frs (X.env :: X.outer)) x1 fun h2 n2 x2 => ?_
    have n12 : Noted (frs X.stack) e (fun T => XFp (cxTry X pins X.xe) pins' H1 T ∨ s1.heap.get? T = none) s1.heap h2 := by rw [hst]; exact n1.trans n2
    have I2 : Inv X pins σ1 H1 { s1 with heap := h2 } := (I1.noted n12 lo1).ofTry
    have go : ∀ (hs : List ExceptHandler) (ts : List (Addr × TS)), PH X hs ts → pickH X.K C ts D σ1 H1 → wpAny (model X.prog X.w) X.A (handleBy (.ref e) X.env hs) (SP X pins D) X.xe { s1 with heap := h2 } := by
      intro hs ts p
      induction p with
      | nil => intro z; exact z.elim
      | @cons cn cp hpos b0 suite Dc th hs ts hg hm hD hh hd r ih =>
        intro hth
        refine wpAny_handleBy_cons (codeAny_handlers_test (ld_glob (I2.toHand e) hg hm ?_ hd)) (by intro z; cases z)
        obtain ⟨oe, vs, q1, q2, q3, q4⟩ := x2.there
        rcases hth with ⟨hsub, hth⟩ | ⟨hsub, hth⟩
        · refine matches_own (K := X.K) I2.kIn q1 q2 hD.cl hD.ty hD.bs hsub ?_
          rw [if_pos rfl]
          refine codeAny_handlers_suite ?_
          refine xland (fr := frs (X.env :: X.outer)) x2 fun h3 n3 x3 => ?_
          have n13 : Noted (frs X.stack) e (fun T => XFp (cxTry X pins X.xe) pins' H1 T ∨ s1.heap.get? T = none) s1.heap h3 := by rw [hst]; exact (n1.trans n2).trans n3
          have I3 : Inv X pins σ1 H1 { s1 with heap := h3 } := (I1.noted n13 lo1).ofTry
          refine wpAny_mono (hh e pins _ _ _ D (I3.toHand e) hth) (fun f s6 q6 => ?_) fun _ _ z => z.elim
          cases f with
          | next =>
            obtain ⟨σ6, H6, J6, r6⟩ := q6
            exact ⟨_, H6, J6.ofHand I.ok.hd, r6⟩
          | brk =>
            obtain ⟨σ6, H6, J6, r6⟩ := q6
            exact ⟨_, H6, J6.ofHand I.ok.hd, r6⟩
          | cont =>
            obtain ⟨σ6, H6, J6, r6⟩ := q6
            exact ⟨_, H6, J6.ofHand I.ok.hd, r6⟩
          | ret u =>
            obtain ⟨v6, σ6, H6, J6, rv, r6⟩ := q6
            exact ⟨v6, _, H6, J6.ofHand I.ok.hd, rv, r6⟩
        · refine matches_own (K := X.K) I2.kIn q1 q2 hD.cl hD.ty hD.bs hsub ?_
          rw [if_neg (by decide)]
          exact ih hth
    exact go _ _ hp hth
  · cases f with
    | next => obtain ⟨σ1, H1, J, r⟩ := q; exact wpAny_execs_nil ⟨σ1, H1, J.ofTry, r⟩
    | brk => obtain ⟨σ1, H1, J, r⟩ := q; exact ⟨σ1, H1, J.ofTry, r⟩
    | cont => obtain ⟨σ1, H1, J, r⟩ := q; exact ⟨σ1, H1, J.ofTry, r⟩
    | ret u => obtain ⟨v, σ1, H1, J, rv, r⟩ := q; exact ⟨v, σ1, H1, J.ofTry, rv, r⟩
end
end L2
set_option Elab.async false
set_option linter.all false
set_option maxRecDepth 100000
set_option maxHeartbeats 4000000



namespace Prf
open PySem L2
def top (i : Nat) : Stmt := PySem.Challenge.pw_fewnotes_k18_webs_of_runs.main.body.getD i (.Pass ⟨0, 0, 0, 0⟩)
abbrev s_is_whole : Stmt := top 7
abbrev s_is_below : Stmt := top 8
abbrev s_cell_of : Stmt := top 11
abbrev s_Hand_init : Stmt := inClass (top 15) 0
abbrev s_Hand_lead_on : Stmt := inClass (top 15) 3
abbrev s_Hand_do : Stmt := inClass (top 15) 4
abbrev s_Hand_holds : Stmt := inClass (top 15) 5
abbrev s_Hand_take : Stmt := inClass (top 15) 6
abbrev s_Hand_value_of : Stmt := inClass (top 15) 7
abbrev s_Works_init : Stmt := inClass (top 16) 0
abbrev s_Works_turn : Stmt := inClass (top 16) 1
abbrev s_Works_touch_by : Stmt := inClass (top 16) 2
abbrev s_Works_how : Stmt := inClass (top 16) 6
abbrev s_Works_counts : Stmt := inClass (top 16) 7
abbrev s_Works_hand_of : Stmt := inClass (top 16) 9
abbrev s_check_numbers : Stmt := top 17
abbrev s_web_of : Stmt := top 19
abbrev s_touches_of : Stmt := top 20
abbrev s_Lspring : Stmt := top 22
abbrev s_Ldraw : Stmt := top 23
abbrev s_Lvalue : Stmt := top 24
abbrev s_Lworth : Stmt := top 25
abbrev s_Lline : Stmt := top 26
abbrev s_Lprogram : Stmt := top 27
abbrev s_Lorder : Stmt := top 28
abbrev s_Lsame : Stmt := top 29
abbrev s_Lnumbers : Stmt := top 30
abbrev s_Lweb_told : Stmt := top 31
abbrev s_Ltouches_told : Stmt := top 32
abbrev s_Ldue : Stmt := top 33
abbrev s_law : Stmt := top 34
structure Blt (mg : Str → Option Value) : Prop where
  b_abs : mg "abs" = none
  b_all : mg "all" = none
  b_any : mg "any" = none
  b_bool : mg "bool" = none
  b_enumerate : mg "enumerate" = none
  b_int : mg "int" = none
  b_isinstance : mg "isinstance" = none
  b_len : mg "len" = none
  b_list : mg "list" = none
  b_max : mg "max" = none
  b_min : mg "min" = none
  b_range : mg "range" = none
  b_sorted : mg "sorted" = none
  b_tuple : mg "tuple" = none
  b_zip : mg "zip" = none
theorem sc_is_whole : FnScope ["value"] ["value"] (defScope s_is_whole) := ⟨rfl, rfl, rfl, by decide +kernel, rfl, by decide +kernel, by decide +kernel⟩
theorem sc_is_below : FnScope ["value", "count"] ["value", "count"] (defScope s_is_below) := ⟨rfl, rfl, rfl, by decide +kernel, rfl, by decide +kernel, by decide +kernel⟩
theorem sc_cell_of : FnScope ["row"] ["row"] (defScope s_cell_of) := ⟨rfl, rfl, rfl, by decide +kernel, rfl, by decide +kernel, by decide +kernel⟩
theorem sc_Hand_init : FnScope ["self", "rows"] ["self", "rows"] (defScope s_Hand_init) := ⟨rfl, rfl, rfl, by decide +kernel, rfl, by decide +kernel, by decide +kernel⟩
theorem sc_Hand_lead_on : FnScope ["self", "done"] ["self"] (defScope s_Hand_lead_on) := ⟨rfl, rfl, rfl, by decide +kernel, rfl, by decide +kernel, by decide +kernel⟩
theorem sc_Hand_do : FnScope ["self", "row"] ["self", "row"] (defScope s_Hand_do) := ⟨rfl, rfl, rfl, by decide +kernel, rfl, by decide +kernel, by decide +kernel⟩
theorem sc_Hand_holds : FnScope ["self", "row", "left", "right"] ["self", "row"] (defScope s_Hand_holds) := ⟨rfl, rfl, rfl, by decide +kernel, rfl, by decide +kernel, by decide +kernel⟩
theorem sc_Hand_take : FnScope ["self", "box", "number"] ["self", "box", "number"] (defScope s_Hand_take) := ⟨rfl, rfl, rfl, by decide +kernel, rfl, by decide +kernel, by decide +kernel⟩
theorem sc_Hand_value_of : FnScope ["self", "part", "left", "right"] ["self", "part"] (defScope s_Hand_value_of) := ⟨rfl, rfl, rfl, by decide +kernel, rfl, by decide +kernel, by decide +kernel⟩
theorem sc_Works_init : FnScope ["self", "program", "cells", "one"] ["self", "program", "cells"] (defScope s_Works_init) := ⟨rfl, rfl, rfl, by decide +kernel, rfl, by decide +kernel, by decide +kernel⟩
theorem sc_Works_turn : FnScope ["self", "hand", "one", "touch"] ["self", "hand"] (defScope s_Works_turn) := ⟨rfl, rfl, rfl, by decide +kernel, rfl, by decide +kernel, by decide +kernel⟩
theorem sc_Works_touch_by : FnScope ["self", "one", "row", "cell", "read", "written"] ["self", "one"] (defScope s_Works_touch_by) := ⟨rfl, rfl, rfl, by decide +kernel, rfl, by decide +kernel, by decide +kernel⟩
theorem sc_Works_how : FnScope ["self", "hand"] ["self", "hand"] (defScope s_Works_how) := ⟨rfl, rfl, rfl, by decide +kernel, rfl, by decide +kernel, by decide +kernel⟩
theorem sc_Works_counts : FnScope ["self"] ["self"] (defScope s_Works_counts) := ⟨rfl, rfl, rfl, by decide +kernel, rfl, by decide +kernel, by decide +kernel⟩
theorem sc_Works_hand_of : FnScope ["self", "hand"] ["self", "hand"] (defScope s_Works_hand_of) := ⟨rfl, rfl, rfl, by decide +kernel, rfl, by decide +kernel, by decide +kernel⟩
theorem sc_check_numbers : FnScope ["cells", "count"] ["cells", "count"] (defScope s_check_numbers) := ⟨rfl, rfl, rfl, by decide +kernel, rfl, by decide +kernel, by decide +kernel⟩
theorem sc_web_of : FnScope ["program", "order", "cells", "works", "web", "hand", "touch"] ["program", "order", "cells"] (defScope s_web_of) := ⟨rfl, rfl, rfl, by decide +kernel, rfl, by decide +kernel, by decide +kernel⟩
theorem sc_touches_of : FnScope ["program", "order", "cells", "works", "touches", "hand", "touch"] ["program", "order", "cells"] (defScope s_touches_of) := ⟨rfl, rfl, rfl, by decide +kernel, rfl, by decide +kernel, by decide +kernel⟩
theorem sc_Lspring : FnScope ["script", "figures", "stir", "cell"] ["script"] (defScope s_Lspring) := ⟨rfl, rfl, rfl, by decide +kernel, rfl, by decide +kernel, by decide +kernel⟩
theorem sc_Ldraw : FnScope ["spring", "many", "found", "stir"] ["spring", "many"] (defScope s_Ldraw) := ⟨rfl, rfl, rfl, by decide +kernel, rfl, by decide +kernel, by decide +kernel⟩
theorem sc_Lvalue : FnScope ["spring", "boxes"] ["spring", "boxes"] (defScope s_Lvalue) := ⟨rfl, rfl, rfl, by decide +kernel, rfl, by decide +kernel, by decide +kernel⟩
theorem sc_Lworth : FnScope ["spring", "boxes", "kind", "one"] ["spring", "boxes"] (defScope s_Lworth) := ⟨rfl, rfl, rfl, by decide +kernel, rfl, by decide +kernel, by decide +kernel⟩
theorem sc_Lline : FnScope ["spring", "room", "boxes", "many", "word", "box", "cell", "to", "one"] ["spring", "room", "boxes", "many"] (defScope s_Lline) := ⟨rfl, rfl, rfl, by decide +kernel, rfl, by decide +kernel, by decide +kernel⟩
theorem sc_Lprogram : FnScope ["spring", "hands", "room", "boxes", "team", "hand", "many"] ["spring"] (defScope s_Lprogram) := ⟨rfl, rfl, rfl, by decide +kernel, rfl, by decide +kernel, by decide +kernel⟩
theorem sc_Lorder : FnScope ["spring", "works", "most", "shape", "order", "k", "waiting"] ["spring", "works", "most"] (defScope s_Lorder) := ⟨rfl, rfl, rfl, by decide +kernel, rfl, by decide +kernel, by decide +kernel⟩
theorem sc_Lsame : FnScope ["found", "due"] ["found", "due"] (defScope s_Lsame) := ⟨rfl, rfl, rfl, by decide +kernel, rfl, by decide +kernel, by decide +kernel⟩
theorem sc_Lnumbers : FnScope ["spring", "room", "spoil", "at", "bad", "numbers"] ["spring", "room"] (defScope s_Lnumbers) := ⟨rfl, rfl, rfl, by decide +kernel, rfl, by decide +kernel, by decide +kernel⟩
theorem sc_Lweb_told : FnScope ["program", "order", "numbers", "style", "word", "found"] ["program", "order", "numbers", "style"] (defScope s_Lweb_told) := ⟨rfl, rfl, rfl, by decide +kernel, rfl, by decide +kernel, by decide +kernel⟩
theorem sc_Ltouches_told : FnScope ["program", "order", "numbers", "style", "word", "found"] ["program", "order", "numbers", "style"] (defScope s_Ltouches_told) := ⟨rfl, rfl, rfl, by decide +kernel, rfl, by decide +kernel, by decide +kernel⟩
theorem sc_Ldue : FnScope ["program", "order", "numbers", "word", "web", "rows", "works", "hand", "told"] ["program", "order", "numbers"] (defScope s_Ldue) := ⟨rfl, rfl, rfl, by decide +kernel, rfl, by decide +kernel, by decide +kernel⟩
theorem sc_law : FnScope ["script", "spring", "spoil", "style", "strange", "program", "numbers", "good", "order", "at", "due", "handed", "told", "rows", "kept"] ["script"] (defScope s_law) := ⟨rfl, rfl, rfl, by decide +kernel, rfl, by decide +kernel, by decide +kernel⟩
structure Cl_Hand (K : PySem.W.Frag) (C : Addr) : Prop where
  cls : Cls K C
  n_rows : NoAttr K C "rows"
  n_at : NoAttr K C "at"
  n_in_boxes : NoAttr K C "in_boxes"
  n_sayings : NoAttr K C "sayings"
  n_state : NoAttr K C "state"
structure Cl_Works (K : PySem.W.Frag) (C : Addr) : Prop where
  cls : Cls K C
  n_program : NoAttr K C "program"
  n_numbers : NoAttr K C "numbers"
  n_hands : NoAttr K C "hands"
  n_turns : NoAttr K C "turns"
section
variable {P : Program} {w : World} {K : PySem.W.Frag} {mg : Str → Option Value} {base : Heap}
/-! ### the spring and its draws -/
def SpringOk (H : Hp) (r : Addr) : Prop := ∃ f t c : Int, H r = some (.lst [.int f, .int t, .int c]) ∧ 0 ≤ f ∧ 0 ≤ t ∧ t < 2305843009213693951 ∧ 0 ≤ c
theorem SpringOk.keep {H H' : Hp} {r : Addr} (h : SpringOk H r) (k : Same H H') : SpringOk H' r := by
  obtain ⟨f, t, c, e, q⟩ := h
  exact ⟨f, t, c, k _ _ e, q⟩
theorem SpringOk.keep' {H H' : Hp} {r x : Addr} (h : SpringOk H r) (k : Kp x H H') (n : r ≠ x) : SpringOk H' r := by
  obtain ⟨f, t, c, e, q⟩ := h
  exact ⟨f, t, c, k _ _ e n, q⟩
def spDraw (K : PySem.W.Frag) : Sp := fun vs H Q _ => ∃ (r : Addr) (m : Int), vs = [.ref r, .int m] ∧ SpringOk H r ∧ 0 < m ∧ m < 1073741824 ∧ ∀ (n : Int) (H' : Hp), 0 ≤ n → n < m → SpringOk H' r → Kp r H H' → Q (.int n) H'
theorem ok_draw {f : Addr} {fd : FuncData} (F : Fun K "_law_draw" "_law_draw" s_Ldraw f fd) : FnOk P w K mg base CX0 1 f fd ["spring", "many"] (spDraw K) := by
  refine F.ok sc_Ldraw (fun vs H Q E h => ?_) (fun cdv A outer s H vs Q E hr h => ?_)
  · obtain ⟨r, m, rfl, _⟩ := h
    rfl
  · obtain ⟨r, m, rfl, ⟨f, t, c, hs, hf, ht, ht2, hc⟩, m0, m1, k⟩ := h
    refine ⟨_, (pss_cons (ps_if (pt_cmpR op_gt (pe_ix (ix_listK (K := K) rfl) (pv 0) pe_int (fun _ _ => rfl)) pe_int (nomark _)) (pss_cons (ps_set (i := 2) sc_Ldraw.nd rfl (Or.inl rfl) (pe_op op_mod (pe_ix (ix_listK (K := K) rfl) (pv 0) pe_int (fun _ _ => rfl)) (pv 1)))
      (pss_cons (ps_asg (pe_op op_fdiv (pe_ix (ix_listK (K := K) rfl) (pv 0) pe_int (fun _ _ => rfl)) (pv 1)) (pg_sub (pv 0) pe_int set_list))
      (pss_one (ps_ret (pv 2))))) pss_nil)
      (pss_cons (ps_asg (pe_op op_add (pe_ix (ix_listK (K := K) rfl) (pv 0) pe_int (fun _ _ => rfl)) pe_int) (pg_sub (pv 0) pe_int set_list))
      (pss_cons (ps_set (i := 3) sc_Ldraw.nd rfl (Or.inl rfl) (pe_op op_mod (pe_op op_mul (pe_ix (ix_listK (K := K) rfl) (pv 0) pe_int (fun _ _ => rfl)) (pe_ix (ix_listK (K := K) rfl) (pv 0) pe_int (fun _ _ => rfl))) pe_int))
      (pss_cons (ps_asg (pe_op op_mod (pe_op op_add (pe_op op_add (pv 3) (pe_op op_mul (pe_op op_mul pe_int (pe_ix (ix_listK (K := K) rfl) (pv 0) pe_int (fun _ _ => rfl))) (pe_ix (ix_listK (K := K) rfl) (pv 0) pe_int (fun _ _ => rfl)))) pe_int) pe_int) (pg_sub (pv 0) pe_int set_list))
      (pss_one (ps_ret (pe_op op_mod (pe_op op_fdiv (pe_ix (ix_listK (K := K) rfl) (pv 0) pe_int (fun _ _ => rfl)) pe_int) (pv 1)))))))), ?_⟩
    refine ⟨_, rfl, _, _, _, _, rfl, rfl, SqL.of hs, rfl, _, _, rfl, rfl, _, rfl, ?_⟩
    refine ite2 (fun h0 => ?_) (fun h0 => ?_)
    · -- found = spring[0] % many
      refine ⟨_, rfl, _, _, _, _, rfl, rfl, SqL.of hs, rfl, _, rfl, _, _, rfl, rfl, m0, ?_⟩
      -- spring[0] = spring[0] // many
      refine ⟨_, rfl, _, _, _, _, rfl, rfl, SqL.of hs, rfl, _, rfl, _, _, rfl, rfl, ⟨m0, m1⟩, _, rfl, _, _, _, _, rfl, rfl, hs, rfl, ?_⟩
      refine ⟨_, rfl, ?_⟩
      exact k _ _ (Int.emod_nonneg _ (by omega)) (Int.emod_lt_of_pos _ m0) ⟨_, _, _, upd_same, Int.ediv_nonneg hf (by omega), ht, ht2, hc⟩ Kp.set
    · -- spring[2] = spring[2] + 1
      refine ⟨_, rfl, _, _, _, _, rfl, rfl, SqL.of hs, rfl, _, _, rfl, rfl, _, rfl, _, _, _, _, rfl, rfl, hs, rfl, ?_⟩
      -- stir = spring[1] * spring[1] % M
      refine ⟨_, rfl, _, _, _, _, rfl, rfl, SqL.of upd_same, rfl, _, rfl, _, _, _, _, rfl, rfl, SqL.of upd_same, rfl, _, _, rfl, rfl, .inl ⟨by omega, by omega⟩, _, _, rfl, rfl, (by show (0 : Int) < 2305843009213693951; decide), ?_⟩
      -- spring[1] = ..
      refine ⟨_, rfl, _, rfl, _, _, _, _, rfl, rfl, SqL.of upd_same, rfl, _, _, rfl, rfl, .inl ⟨by decide, by decide⟩, _, rfl, _, _, _, _, rfl, rfl, SqL.of upd_same, rfl, _, _, rfl, rfl, .inr ⟨by omega, by omega⟩, _, _, rfl, rfl, _, _, rfl, rfl, _, _, rfl, rfl, (by show (0 : Int) < 2305843009213693951; decide),
        _, rfl, _, _, _, _, rfl, rfl, upd_same, rfl, ?_⟩
      refine ⟨_, rfl, _, _, _, _, rfl, rfl, SqL.of upd_same, rfl, _, _, rfl, rfl, (by show CDiv _ 65537; exact ⟨by decide, by decide⟩), _, rfl, _, _, rfl, rfl, m0, ?_⟩
      refine k _ _ (Int.emod_nonneg _ (by omega)) (Int.emod_lt_of_pos _ m0) ⟨_, _, _, upd_same, hf, Int.emod_nonneg _ (by decide), Int.emod_lt_of_pos _ (by decide), ?_⟩ ?_
      · show 0 ≤ c + 1
        omega
      · rw [upd_upd]
        exact Kp.set
def spSpring (K : PySem.W.Frag) : Sp := fun vs H Q _ => ∃ (a : Addr) (ns : List Int), vs = [.ref a] ∧ SqL K H a (ns.map V.int) ∧ ns.length ≤ 63 ∧ ∀ (r : Addr) (H' : Hp), H r = none → SpringOk H' r → Same H H' → Q (.ref r) H'
theorem bits60 : Builtin.Int.intBits ((10 : Int) ^ ((60 : Int).toNat)) ≤ 200 := PySem.intBits_le_iff.mpr (by decide)
theorem ok_spring {f : Addr} {fd : FuncData} (F : Fun K "_law_spring" "_law_spring" s_Lspring f fd) (Bt : Blt mg) : FnOk P w K mg base CX0 1 f fd ["script"] (spSpring K) := by
  refine F.ok sc_Lspring (fun vs H Q E h => ?_) (fun cdv A outer s H vs Q E hr h => ?_)
  · obtain ⟨a, ns, rfl, _⟩ := h
    rfl
  · obtain ⟨a, ns, rfl, hs, hlen, k⟩ := h
    refine ⟨_, (pss_cons (ps_set (i := 1) sc_Lspring.nd rfl (Or.inl rfl) pe_int)
      (pss_cons (ps_set (i := 2) sc_Lspring.nd rfl (Or.inl rfl) pe_int)
      (pss_cons (ps_for PassesOwn.never rfl (pi_listK (K := K) rfl (pe_slice (sl_listK (K := K) rfl) (pv 0) po_none (po_some pe_int))) (pg_name (i := 3) sc_Lspring.nd rfl (Or.inl rfl))
      (pss_cons (ps_if (pt_cmpR op_ge (pe_callB call_abs (by rfl) Bt.b_abs bt_abs (pa_cons (pv 3) pa_nil)) (pe_op op_pow pe_int pe_int) (nomark _)) (pss_one (ps_set (i := 1) sc_Lspring.nd rfl (Or.inl rfl) (pe_op op_add (pe_op op_mulB (pv 1) (pe_op op_pow pe_int pe_int)) (pe_op op_mod (pe_callB call_abs (by rfl) Bt.b_abs bt_abs (pa_cons (pv 3) pa_nil)) (pe_op op_pow pe_int pe_int))))) pss_nil)
      (pss_one (ps_set (i := 2) sc_Lspring.nd rfl (Or.inl rfl) (pe_op op_mod (pe_op op_add (pe_op op_add (pe_op op_mul (pv 2) pe_int) (pe_op op_mod (pv 3) pe_int)) pe_int) pe_int)))))
      (pss_one (ps_ret (pe_lst (pa_cons (pv 1) (pa_cons (pv 2) (pa_cons pe_int pa_nil))))))))), ?_⟩
    -- for cell in script[:63]
    refine ⟨_, rfl, _, rfl, _, _, rfl, hs, fun p hp => ?_⟩
    have hcut : cutV (ns.map V.int) none (some 63) = ns.map V.int := by
      unfold cutV
      rw [HT.sIx_none, show (some (63 : Int)) = some ((63 : Nat) : Int) from rfl, HT.sIx_nat, List.length_map, List.drop_zero, Nat.min_eq_right hlen, Nat.sub_zero, List.take_of_length_le (by simp)]
    rw [hcut]
    refine ⟨p, rfl, ⟨_, SqL.of upd_same⟩, for_list (K := K) (a := p) (xs := ns.map V.int) (fun i σ H2 => ∃ (f t : Int) (v : Option V), σ = [some (.ref a), some (.int f), some (.int t), v] ∧ H2 = upd H p (.lst (ns.map V.int)) ∧ 0 ≤ f ∧ Builtin.Int.intBits f ≤ 201 * i ∧ 0 ≤ t ∧ t < 2305843009213693951)
      ⟨0, 88651, none, rfl, rfl, by decide, by decide, by decide, by decide⟩ (fun i σ H2 _ ⟨_, _, _, _, e, _⟩ => by rw [e]; exact SqL.of upd_same) ?_ ?_⟩
    · rintro i y σ H2 hi ⟨f, t, v, rfl, rfl, hf, hb, ht, ht2⟩
      have hil : i < ns.length := by have := (List.getElem?_eq_some_iff.mp hi).1; rwa [List.length_map] at this
      obtain ⟨z, rfl⟩ : ∃ z, y = V.int z := by
        rw [List.getElem?_map] at hi
        cases e : ns[i]? with
        | none => rw [e] at hi; cases hi
        | some z => rw [e] at hi; exact ⟨z, (Option.some.inj hi).symm⟩
      refine ⟨_, rfl, _, rfl, _, _, rfl, rfl, (by show CPow 10 18; exact ⟨by decide, by decide, by decide⟩), _, _, rfl, rfl, _, rfl, ?_⟩
      have hcp : CPow 10 60 := ⟨by decide, by decide, by decide⟩
      refine ite2 (fun _ => ?_) (fun _ => ?_)
      · have hmul : IntMulOk f ((10 : Int) ^ ((60 : Int).toNat)) := IntMulOk.of_le hb bits60 (by omega)
        have hpos : (0 : Int) < (10 : Int) ^ ((60 : Int).toNat) := by decide
        have habs : (0 : Int) ≤ (if z < 0 then -z else z) % ((10 : Int) ^ ((60 : Int).toNat)) := Int.emod_nonneg _ (Int.ne_of_gt hpos)
        have hbits : Builtin.Int.intBits ((if z < 0 then -z else z) % ((10 : Int) ^ ((60 : Int).toNat))) ≤ 200 :=
          PySem.intBits_le_of_natAbs (y := (10 : Int) ^ ((60 : Int).toNat)) (by have := Int.emod_lt_of_pos (if z < 0 then -z else z) hpos; omega) bits60
        refine ⟨_, rfl, _, _, rfl, rfl, hcp, _, _, rfl, rfl, hmul, _, rfl, _, rfl, _, _, rfl, rfl, hcp, _, _, rfl, rfl, hpos, _, _, rfl, rfl, ?_⟩
        refine ⟨_, rfl, _, _, rfl, rfl, .inr ⟨by decide, by decide⟩, _, rfl, _, _, rfl, rfl, (by show (0 : Int) < 2305843009213693921; decide), _, _, rfl, rfl, _, _, rfl, rfl, _, _, rfl, rfl, (by show (0 : Int) < 2305843009213693951; decide), ?_⟩
        refine ⟨_, _, _, rfl, rfl, Int.add_nonneg (Int.mul_nonneg hf (Int.le_of_lt hpos)) habs, ?_, Int.emod_nonneg _ (by decide), Int.emod_lt_of_pos _ (by decide)⟩
        have q := PySem.intBits_add_le (PySem.intBits_mul_le hb bits60) hbits
        have : max (201 * i + 200) 200 + 1 = 201 * (i + 1) := by omega
        rw [this] at q
        exact q
      · refine ⟨_, rfl, _, _, rfl, rfl, .inr ⟨by decide, by decide⟩, _, rfl, _, _, rfl, rfl, (by show (0 : Int) < 2305843009213693921; decide), _, _, rfl, rfl, _, _, rfl, rfl, _, _, rfl, rfl, (by show (0 : Int) < 2305843009213693951; decide), ?_⟩
        exact ⟨_, _, _, rfl, rfl, hf, by omega, Int.emod_nonneg _ (by decide), Int.emod_lt_of_pos _ (by decide)⟩
    · rintro σ H2 ⟨f, t, v, rfl, rfl, hf, hb, ht, ht2⟩
      refine ⟨_, rfl, _, rfl, (by show 3 ≤ sizeLine; decide), fun r hr' => ?_⟩
      exact k r _ ((same_new hp).free hr') ⟨f, t, 0, upd_same, hf, ht, ht2, by decide⟩ ((same_new hp).trans (same_new hr'))

/-! ### a web -/
abbrev Tch := Int × Str × Int
def tD (x : Tch) : PyData := .tuple [.int x.1, .str x.2.1, .int x.2.2]
theorem imm_tD (x : Tch) : imm (tD x) = true := rfl
theorem dat_tch {H : Hp} {t : Addr} {x : Tch} (h : H t = some (.tup [.int x.1, .str x.2.1, .int x.2.2])) : Dat H (.ref t) (tD x) := by
  simp only [tD, Dat]
  exact ⟨t, _, rfl, h, by simp only [Dats, Dat, and_self]⟩
/-- a list of touches stands at a -/
def WebAt (H : Hp) (a : Addr) (ws : List Tch) : Prop := ∃ vs, H a = some (.lst vs) ∧ Dats H vs (ws.map tD)
theorem WebAt.same {H H' : Hp} {a : Addr} {ws : List Tch} (h : WebAt H a ws) (k : Same H H') : WebAt H' a ws := by
  obtain ⟨vs, e, d⟩ := h
  exact ⟨vs, k _ _ e, Dats.keep k.tups _ (imms_map _ imm_tD ws) d⟩
/-! ### whole numbers -/
def inP (i : Int) (n : Nat) : Prop := 0 ≤ i ∧ i < (n : Int)
instance (i : Int) (n : Nat) : Decidable (inP i n) := inferInstanceAs (Decidable (_ ∧ _))
def spWh (K : PySem.W.Frag) : Sp := fun vs H Q _ => ∃ i : Int, vs = [.int i] ∧ Q (.bl true) H
theorem ok_is_whole {f : Addr} {fd : FuncData} (F : Fun K "is_whole" "is_whole" s_is_whole f fd) (Bt : Blt mg) : FnOk P w K mg base CX0 1 f fd ["value"] (spWh K) := by
  refine F.ok sc_is_whole (fun vs H Q E h => ?_) (fun cdv A outer s H vs Q E hr h => ?_)
  · obtain ⟨i, rfl, _⟩ := h
    rfl
  · obtain ⟨i, rfl, k⟩ := h
    refine ⟨_, (pss_one (ps_ret (pe_and (pe_callB (call_isiK (K := K) (cv := .ty "int") (c := .type "int") rfl rfl) (by rfl) Bt.b_isinstance bt_isinstance (pa_cons (pv 0) (pa_cons (pe_bltn (v := .ty "int") (by rfl) Bt.b_int bt_int rfl) pa_nil))) (pe_one (pe_not (pe_callB (call_isiK (K := K) (cv := .ty "bool") (c := .type "bool") rfl rfl) (by rfl) Bt.b_isinstance bt_isinstance (pa_cons (pv 0) (pa_cons (pe_bltn (v := .ty "bool") (by rfl) Bt.b_bool bt_bool rfl) pa_nil)))))))), ?_⟩
    refine ⟨_, rfl, _, _, true, rfl, .int i, isi_int_int K, true, rfl, ?_⟩
    refine iteT ?_
    exact ⟨_, rfl, _, _, false, rfl, .int i, isi_int_bool K, false, rfl, k⟩
def spBelow (K : PySem.W.Frag) : Sp := fun vs H Q _ => ∃ (i : Int) (n : Nat), vs = [.int i, .int n] ∧ Q (.bl (decide (inP i n))) H
theorem ok_is_below {f : Addr} {fd : FuncData} (F : Fun K "is_below" "is_below" s_is_below f fd) (F_is_whole : FnAt P w K mg base 1 "is_whole" ["value"] (spWh K)) : FnOk P w K mg base CX0 2 f fd ["value", "count"] (spBelow K) := by
  refine F.ok sc_is_below (fun vs H Q E h => ?_) (fun cdv A outer s H vs Q E hr h => ?_)
  · obtain ⟨i, n, rfl, _⟩ := h
    rfl
  · obtain ⟨i, n, rfl, k⟩ := h
    refine ⟨_, (pss_one (ps_ret (pe_and (pe_fn F_is_whole (hr.mono (by decide)) (by rfl) (pa_cons (pv 0) pa_nil)) (pe_one (pe_chain op_le op_lt pe_int (pv 0) (pv 1)))))), ?_⟩
    refine ⟨_, rfl, i, rfl, true, rfl, ?_⟩
    refine iteT ?_
    refine ⟨_, rfl, _, _, rfl, rfl, _, rfl, ?_⟩
    refine ite2 (fun h0 => ?_) (fun h0 => ?_)
    · refine ⟨_, rfl, _, _, rfl, rfl, ?_⟩
      have e : decide (inP i n) = decide (i < (n : Int)) := by
        have h0 := of_decide_eq_true h0
        rw [Bool.eq_iff_iff, decide_eq_true_iff, decide_eq_true_iff]
        exact ⟨fun z => z.2, fun z => ⟨h0, z⟩⟩
      show Q (.bl (decide (i < (n : Int)))) H
      rw [← e]
      exact k
    · have e : decide (inP i n) = false := decide_eq_false fun z => h0 (decide_eq_true z.1)
      rw [← e]
      exact k

theorem eqv_int (x y : Int) : PyData.eqv (.int x) (.int y) = decide (x = y) := by
  simp only [PyData.eqv]
  rw [Bool.eq_iff_iff]
  simp
theorem dat_ints {H : Hp} {a : Addr} {ns : List Int} (h : H a = some (.lst (ns.map V.int))) : Dat H (.ref a) (.list (ns.map PyData.int)) := dat_list h (Dats.ints ns)
theorem shaped_ints (ns : List Int) : SeqAt.shaped (.list (ns.map PyData.int)) = true := shaped_list PyData.int 0 (by decide) (fun _ _ => rfl) (fun _ _ => by show 0 ≤ 0; decide)

/-! ### the law's own -/
section
variable {D r : Addr} {te : TE} {Q : VK} {rest : St} {H1 : Hp} {n : Nat}
theorem SpringOk.ne {H : Hp} {r p : Addr} (h : SpringOk H r) (hp : H p = none) : p ≠ r := by
  obtain ⟨f, t, c, e, _⟩ := h
  exact (ne_of_none e hp).symm
theorem SpringOk.at {H : Hp} {r : Addr} (h : SpringOk H r) : ∃ o, H r = some o := by
  obtain ⟨f, t, c, e, _⟩ := h
  exact ⟨_, e⟩
theorem SpringOk.tups {H H' : Hp} {r : Addr} (h : SpringOk H r) (k : Kp r H H') : ∀ a xs, H a = some (HO.tup xs) → H' a = some (HO.tup xs) := by
  obtain ⟨f, t, c, e, _⟩ := h
  exact k.tups e
theorem Kp.new {H H' : Hp} {r p : Addr} (k : Kp r H H') (hp : H' p = none) (hr : ∃ o, H' r = some o) : H p = none := by
  cases e : H p with
  | none => rfl
  | some o =>
    by_cases n : p = r
    · subst n
      obtain ⟨o', ho⟩ := hr
      rw [hp] at ho
      cases ho
    · rw [k _ _ e n] at hp
      cases hp
end

/-! ### a hand, in general -/
def hF (r : Addr) (n : Int) (b sy : Addr) (st : Str) : List (Str × V) := [("rows", .ref r), ("at", .int n), ("in_boxes", .ref b), ("sayings", .ref sy), ("state", .str st)]
structure HAd where
  (h hx r b sy : Addr)
structure HdC (CH : Addr) (H : Hp) (A : HAd) (s : HandS) : Prop where
  h : H A.h = some (.ins CH A.hx (hF A.r s.pos A.b A.sy s.st))
  b : H A.b = some (.lst (s.bs.map V.int))
  y : H A.sy = some (.lst (s.sy.map V.int))
  nby : A.b ≠ A.sy
  bl : s.bs.length = 8
/-- the hand alone is changed -/
def KH (A : HAd) (H H' : Hp) : Prop := ∀ x o, H x = some o → x ≠ A.h → x ≠ A.b → x ≠ A.sy → H' x = some o
theorem KH.of_same {A : HAd} {H H' : Hp} (k : Same H H') : KH A H H' := fun x o e _ _ _ => k _ _ e
theorem KH.trans {A : HAd} {H H1 H2 : Hp} (a : KH A H H1) (b : KH A H1 H2) : KH A H H2 := fun x o e n1 n2 n3 => b x o (a x o e n1 n2 n3) n1 n2 n3
theorem KH.seth {A : HAd} {H : Hp} {o : HO} : KH A H (upd H A.h o) := fun x u e n _ _ => by rw [upd_ne n]; exact e
theorem KH.setb {A : HAd} {H : Hp} {o : HO} : KH A H (upd H A.b o) := fun x u e _ n _ => by rw [upd_ne n]; exact e
theorem KH.sety {A : HAd} {H : Hp} {o : HO} : KH A H (upd H A.sy o) := fun x u e _ _ n => by rw [upd_ne n]; exact e
theorem HdC.nhb {CH : Addr} {H : Hp} {A : HAd} {s : HandS} (c : HdC CH H A s) : A.h ≠ A.b := ne_of c.h c.b (by intro z; cases z)
theorem HdC.nhy {CH : Addr} {H : Hp} {A : HAd} {s : HandS} (c : HdC CH H A s) : A.h ≠ A.sy := ne_of c.h c.y (by intro z; cases z)
theorem HdC.same {CH : Addr} {H H' : Hp} {A : HAd} {s : HandS} (c : HdC CH H A s) (k : Same H H') : HdC CH H' A s := ⟨k _ _ c.h, k _ _ c.b, k _ _ c.y, c.nby, c.bl⟩
theorem HdC.tup {CH : Addr} {H H' : Hp} {A : HAd} {s : HandS} (c : HdC CH H A s) (k : KH A H H') : ∀ x xs, H x = some (.tup xs) → H' x = some (.tup xs) := fun x xs e => k _ _ e (ne_of e c.h (by intro z; cases z)) (ne_of e c.b (by intro z; cases z)) (ne_of e c.y (by intro z; cases z))
theorem HdC.seth {CH : Addr} {H : Hp} {A : HAd} {s : HandS} (c : HdC CH H A s) (n : Nat) (st : Str) : HdC CH (upd H A.h (.ins CH A.hx (hF A.r n A.b A.sy st))) A { s with pos := n, st := st } :=
  ⟨upd_same, by rw [upd_ne c.nhb.symm]; exact c.b, by rw [upd_ne c.nhy.symm]; exact c.y, c.nby, c.bl⟩
theorem HdC.setb {CH : Addr} {H : Hp} {A : HAd} {s : HandS} (c : HdC CH H A s) (bs : List Int) (l : bs.length = 8) : HdC CH (upd H A.b (.lst (bs.map V.int))) A { s with bs := bs } :=
  ⟨by rw [upd_ne c.nhb]; exact c.h, upd_same, by rw [upd_ne c.nby.symm]; exact c.y, c.nby, l⟩
theorem HdC.sety {CH : Addr} {H : Hp} {A : HAd} {s : HandS} (c : HdC CH H A s) (ys : List Int) : HdC CH (upd H A.sy (.lst (ys.map V.int))) A { s with sy := ys } :=
  ⟨by rw [upd_ne c.nhy]; exact c.h, by rw [upd_ne c.nby]; exact c.b, upd_same, c.nby, c.bl⟩
theorem put_at (r b sy : Addr) (n m : Int) (st : Str) : putF "at" (.int m) (hF r n b sy st) = hF r m b sy st := by rfl
theorem put_st (r b sy : Addr) (n : Int) (st st' : Str) : putF "state" (.str st') (hF r n b sy st) = hF r n b sy st' := by rfl
theorem fm_zero (n : Nat) : (List.range n).filterMap (fun _ => some (V.int 0)) = (List.replicate n 0).map V.int := by
  induction n with
  | zero => rfl
  | succ n ih => rw [fm_succ, ih, List.replicate_succ', List.map_append]; rfl
theorem kp_none {H H' : Hp} {o p : Addr} (h : Kp o H H') (ne : p ≠ o) (n : H' p = none) : H p = none := by
  cases e : H p with
  | none => rfl
  | some u => rw [h _ _ e ne] at n; cases n
theorem bx_at : ∀ b : Fin 8, Builtin.Str.occurrences (Str.ofString "abcdefgh") (bxS b.val) 0 (Str.ofString "abcdefgh").length 1 = [b.val] := by decide +kernel
theorem bx_at' {b : Nat} (h : b < 8) : Builtin.Str.occurrences (Str.ofString "abcdefgh") (bxS b) 0 (Str.ofString "abcdefgh").length 1 = [b] := bx_at ⟨b, h⟩
/-! made -/
def spHInit (CH : Addr) (K : PySem.W.Frag) : Sp := fun vs H Q _ => ∃ (a r dx : Addr), vs = [.ref a, .ref r] ∧ H a = some (.ins CH dx []) ∧ ∀ (b sy : Addr) (H' : Hp), H b = none → H sy = none → b ≠ sy →
  H' a = some (.ins CH dx (hF r 0 b sy "waits")) → H' b = some (.lst ((List.replicate 8 0).map V.int)) → H' sy = some (.lst []) → Kp a H H' → Q .non H'
theorem ok_hinit {C_Hand : Addr} {f : Addr} {fd : FuncData} (F : Fun K "__init__" "Hand.__init__" s_Hand_init f fd) (Z_Hand : Cl_Hand K C_Hand) (G_BOXES : Gv mg "BOXES" (.str "abcdefgh")) : FnOk P w K mg base CX0 1 f fd ["self", "rows"] (spHInit C_Hand K) := by
  refine F.ok sc_Hand_init (fun vs H Q E h => ?_) (fun cdv A outer s H vs Q E hr h => ?_)
  · obtain ⟨a, r, dx, rfl, _⟩ := h
    rfl
  · obtain ⟨a, r, dx, rfl, ha, k⟩ := h
    refine ⟨_, (pss_cons (ps_fldK (K := K) rfl (pv 0) (pv 1) rfl)
      (pss_cons (ps_fldK (K := K) rfl (pv 0) pe_int rfl)
      (pss_cons (ps_fldK (K := K) rfl (pv 0) (pe_comp rfl (N := ["box"]) (own := ["box"]) (caps := []) (CompScope.of (by kernel_rfl)) (pi_str (pe_glob (by rfl) G_BOXES.choose_spec.1 G_BOXES.choose_spec.2)) (fun _ _ _ _ => (pg_name (i := 0) (show List.Nodup (["box"] : List Str) by decide +kernel) rfl (Or.inl rfl))) (fun _ _ _ _ => pts_nil) (fun _ _ _ _ => pe_int)) rfl)
      (pss_cons (ps_fldK (K := K) rfl (pv 0) (pe_lst pa_nil) rfl)
      (pss_one (ps_fldK (K := K) rfl (pv 0) pe_str rfl)))))), ?_⟩
    refine ⟨_, rfl, _, rfl, a, C_Hand, dx, [], rfl, ha, Z_Hand.cls, Z_Hand.n_rows, by decide, ?_⟩
    refine ⟨_, rfl, a, C_Hand, dx, _, rfl, upd_same, Z_Hand.cls, Z_Hand.n_at, (by show 1 < 1000; decide), ?_⟩
    refine ⟨_, rfl, fun D hD => ?_⟩
    refine comp_valS (fun _ => some (.int 0)) hD (by decide) (fun i c H1 G F hi s1 kG kF => kF _ H1 (Same.refl _) rfl) (fun H1 s1 e1 => ?_)
    rw [fm_zero] at e1
    refine ⟨_, rfl, a, C_Hand, dx, _, rfl, s1 _ _ upd_same, Z_Hand.cls, Z_Hand.n_in_boxes, (by show 2 < 1000; decide), ?_⟩
    have naD : a ≠ D := ne_of_none upd_same hD
    refine ⟨(by show 0 ≤ sizeLine; decide), fun q hq => ?_⟩
    have naq : a ≠ q := ne_of_none upd_same hq
    refine ⟨_, rfl, a, C_Hand, dx, _, rfl, (by rw [upd_ne naq]; exact upd_same), Z_Hand.cls, Z_Hand.n_sayings, (by show 3 < 1000; decide), ?_⟩
    refine ⟨_, rfl, a, C_Hand, dx, _, rfl, upd_same, Z_Hand.cls, Z_Hand.n_state, (by show 4 < 1000; decide), ?_⟩
    have hD0 : H D = none := by rw [upd_ne naD.symm, upd_ne naD.symm] at hD; exact hD
    have nDq : D ≠ q := by
      intro e
      rw [← e, upd_ne naD.symm, e1] at hq
      cases hq
    have hq0 : H q = none := by
      rw [upd_ne naq.symm] at hq
      cases e : H q with
      | none => rfl
      | some o =>
        have := s1 q o (by rw [upd_ne naq.symm, upd_ne naq.symm]; exact e)
        rw [this] at hq
        cases hq
    refine k D q _ hD0 hq0 nDq ?_ ?_ ?_ ?_
    · rw [upd_same]; rfl
    · rw [upd_ne naD.symm, upd_ne naD.symm, upd_ne nDq, upd_ne naD.symm, e1]; rfl
    · rw [upd_ne naq.symm, upd_ne naq.symm, upd_same]
    · intro x o e n
      have nq : x ≠ q := ne_of_none e hq0
      rw [upd_ne n, upd_ne n, upd_ne nq, upd_ne n]
      exact s1 x o (by rw [upd_ne n, upd_ne n]; exact e)
theorem atI_0 {x : V} {l : List V} : atI (x :: l) 0 = some x := atI_nat (j := 0) rfl
theorem atI_2 {x y z : V} {l : List V} : atI (x :: y :: z :: l) 2 = some z := atI_nat (j := 2) rfl
/-! the cell of a row -/
def cellV (r : Rw) : V := if touch r then .int (cellR r) else .non
def spCellOf (K : PySem.W.Frag) : Sp := fun vs H Q _ => ∃ (v : V) (r : Rw), vs = [v] ∧ Dat H v (rwD r) ∧ ∀ H', Same H H' → Q (cellV r) H'
theorem ok_cellOf {f : Addr} {fd : FuncData} (F : Fun K "cell_of" "cell_of" s_cell_of f fd) : FnOk P w K mg base CX0 1 f fd ["row"] (spCellOf K) := by
  refine F.ok sc_cell_of (fun vs H Q E h => ?_) (fun cdv A outer s H vs Q E hr h => ?_)
  · obtain ⟨v, r, rfl, _⟩ := h
    rfl
  · obtain ⟨v, r, rfl, d, k⟩ := h
    obtain ⟨t, ws, rfl, ht, ps⟩ := at_rw d
    refine ⟨_, (pss_cons (ps_if (pt_cmpR op_eq (pe_ix (ix_tupK (K := K) rfl) (pv 0) pe_int (fun _ _ => rfl)) pe_str (nomark _)) (pss_one (ps_ret (pe_ix (ix_tupK (K := K) rfl) (pv 0) pe_int (fun _ _ => rfl)))) pss_nil)
      (pss_one (ps_ret (pe_ifExp (pt_cmpR (op_in_seqK (K := K) rfl) (pe_ix (ix_tupK (K := K) rfl) (pv 0) pe_int (fun _ _ => rfl)) (pe_tup (pa_cons pe_str (pa_cons pe_str pa_nil))) (by with_unfolding_all rfl)) (pe_ix (ix_tupK (K := K) rfl) (pv 0) pe_int (fun _ _ => rfl)) pe_non)))), ?_⟩
    have cs : (∃ c e, r = .store c e) ∨ ∃ (x : Str) (ys : List V), ws = .str x :: ys ∧ x ≠ Str.ofString "store" ∧ (x = Str.ofString "load" ∨ x = Str.ofString "swap" → ∃ y z, ys = y :: .int (cellR r) :: z ∧ touch r = true) ∧ (x ≠ Str.ofString "load" → x ≠ Str.ofString "swap" → touch r = false) := by
      cases r with
      | store c e => exact .inl ⟨c, e, rfl⟩
      | load b c => exact .inr ⟨_, _, ps, by decide +kernel, fun _ => ⟨_, _, rfl, rfl⟩, fun z => absurd rfl z⟩
      | swap b c e =>
        obtain ⟨x, e1, _⟩ := ps
        exact .inr ⟨_, _, e1, by decide +kernel, fun _ => ⟨_, _, rfl, rfl⟩, fun _ z => absurd rfl z⟩
      | lett b e =>
        obtain ⟨x, e1, _⟩ := ps
        exact .inr ⟨_, _, e1, by decide +kernel, fun z => absurd z (by decide +kernel), fun _ _ => rfl⟩
      | say e =>
        obtain ⟨x, e1, _⟩ := ps
        exact .inr ⟨_, _, e1, by decide +kernel, fun z => absurd z (by decide +kernel), fun _ _ => rfl⟩
      | go n => exact .inr ⟨_, _, ps, by decide +kernel, fun z => absurd z (by decide +kernel), fun _ _ => rfl⟩
      | unl q e f n =>
        obtain ⟨x, y, e1, _⟩ := ps
        exact .inr ⟨_, _, e1, by decide +kernel, fun z => absurd z (by decide +kernel), fun _ _ => rfl⟩
    rcases cs with ⟨c, e, rfl⟩ | ⟨x, ys, rfl, nx, h1, h2⟩
    · obtain ⟨x, rfl, _⟩ := ps
      refine ⟨_, rfl, _, _, _, _, rfl, rfl, SqT.of ht, rfl, rfl, _, rfl, ?_⟩
      refine ite2 (fun _ => ?_) (fun z => absurd (decide_eq_true rfl) z)
      exact ⟨_, rfl, _, _, _, _, rfl, rfl, SqT.of ht, rfl, k H (Same.refl _)⟩
    refine ⟨_, rfl, _, _, _, _, rfl, rfl, SqT.of ht, atI_0, rfl, _, rfl, ?_⟩
    refine ite2 (fun z => absurd (by simpa using of_decide_eq_true z) nx) (fun _ => ?_)
    refine ⟨_, rfl, _, _, _, _, rfl, rfl, SqT.of ht, atI_0, (by show 2 ≤ sizeLine; decide), fun p hp => ?_⟩
    have sp := same_new (o := HO.tup [V.str (Str.ofString "load"), V.str (Str.ofString "swap")]) hp
    refine ⟨p, _, rfl, .inr (SqT.of upd_same), rfl, rfl, _, rfl, ?_⟩
    by_cases z : x = Str.ofString "load" ∨ x = Str.ofString "swap"
    · obtain ⟨y, w', rfl, tr⟩ := h1 z
      refine ite2 (fun _ => ?_) (fun q => absurd ?_ q)
      · refine ⟨_, rfl, _, _, _, _, rfl, rfl, SqT.of (sp _ _ ht), atI_2, ?_⟩
        have := k _ sp
        unfold cellV at this
        rw [if_pos tr] at this
        exact this
      · rcases z with rfl | rfl <;> decide +kernel
    · have n1 : x ≠ Str.ofString "load" := fun q => z (.inl q)
      have n2 : x ≠ Str.ofString "swap" := fun q => z (.inr q)
      have tr := h2 n1 n2
      refine ite2 (fun q => absurd q ?_) (fun _ => ?_)
      · simp [inV, eqV, n1.symm, n2.symm]
      · have := k _ sp
        unfold cellV at this
        rw [if_neg (by rw [tr]; decide)] at this
        exact this

/-! what a part says -/
def exDep : Exx → Nat
  | .one _ => 1
  | .two _ _ _ => 2
def spVal (CH : Addr) (n : Nat) (K : PySem.W.Frag) : Sp := fun vs H Q _ => ∃ (A : HAd) (s : HandS) (v : V) (e : Exx), vs = [.ref A.h, v] ∧ HdC CH H A s ∧ Dat H v (exD e) ∧ exOk e ∧ exDep e ≤ n ∧ Q (.int (vx s.bs e)) H
theorem ok_val0 {C_Hand : Addr} {f : Addr} {fd : FuncData} (F : Fun K "value_of" "Hand.value_of" s_Hand_value_of f fd) : FnOk P w K mg base CX0 1 f fd ["self", "part"] (spVal C_Hand 0 K) := by
  refine F.ok sc_Hand_value_of (fun vs H Q E h => ?_) (fun cdv A outer s H vs Q E hr h => ?_)
  · obtain ⟨A, s, v, e, rfl, _, _, _, z, _⟩ := h
    cases e <;> simp [exDep] at z
  · obtain ⟨A, s, v, e, rfl, _, _, _, z, _⟩ := h
    cases e <;> simp [exDep] at z
theorem ok_valS {C_Hand : Addr} {n : Nat} {f : Addr} {fd : FuncData} (F : Fun K "value_of" "Hand.value_of" s_Hand_value_of f fd) (M_Hand_value_of : MethAt P w K mg base (n + 1) C_Hand "value_of" ["self", "part"] (spVal C_Hand n K)) (Z_Hand : Cl_Hand K C_Hand) (G_BOXES : Gv mg "BOXES" (.str "abcdefgh")) (G_ROUND : Gv mg "ROUND" (.int 1000)) : FnOk P w K mg base CX0 (n + 1 + 1) f fd ["self", "part"] (spVal C_Hand (n + 1) K) := by
  refine F.ok sc_Hand_value_of (fun vs H Q E h => ?_) (fun cdv A outer s H vs Q E hr h => ?_)
  · obtain ⟨A, s, v, e, rfl, _⟩ := h
    rfl
  · obtain ⟨B, z, v, e, rfl, c, d, eo, dp, k⟩ := h
    refine ⟨_, (pss_cons (ps_if (pt_cmpR op_eq (pe_ix (ix_tupK (K := K) rfl) (pv 1) pe_int (fun _ _ => rfl)) pe_str (nomark _)) (pss_one (ps_ret (pe_op op_mod (pe_ix (ix_tupK (K := K) rfl) (pv 1) pe_int (fun _ _ => rfl)) (pe_glob (by rfl) G_ROUND.choose_spec.1 G_ROUND.choose_spec.2)))) pss_nil)
      (pss_cons (ps_if (pt_cmpR op_eq (pe_ix (ix_tupK (K := K) rfl) (pv 1) pe_int (fun _ _ => rfl)) pe_str (nomark _)) (pss_one (ps_ret (pe_ix (ix_listK (K := K) rfl) (pe_fldK (K := K) rfl (pv 0) rfl) (pe_bmK (K := K) rfl PySem.F.plainAttrs_str PySem.F.slot_str_index PySem.F.type_str_index mt_indexS (pe_glob (by rfl) G_BOXES.choose_spec.1 G_BOXES.choose_spec.2) (pa_cons (pe_ix (ix_tupK (K := K) rfl) (pv 1) pe_int (fun _ _ => rfl)) pa_nil)) (fun _ _ => rfl)))) pss_nil)
      (pss_cons (ps_set (i := 2) sc_Hand_value_of.nd rfl (Or.inl rfl) (pe_methA M_Hand_value_of Z_Hand.cls (hr.mono (Nat.le_refl _)) (pv 0) (pa_cons (pe_ix (ix_tupK (K := K) rfl) (pv 1) pe_int (fun _ _ => rfl)) pa_nil)))
      (pss_cons (ps_set (i := 3) sc_Hand_value_of.nd rfl (Or.inl rfl) (pe_methA M_Hand_value_of Z_Hand.cls (hr.mono (Nat.le_refl _)) (pv 0) (pa_cons (pe_ix (ix_tupK (K := K) rfl) (pv 1) pe_int (fun _ _ => rfl)) pa_nil)))
      (pss_one (ps_ret (pe_op op_mod (pe_ifExp (pt_cmpR op_eq (pe_ix (ix_tupK (K := K) rfl) (pv 1) pe_int (fun _ _ => rfl)) pe_str (nomark _)) (pe_op op_add (pv 2) (pv 3)) (pe_op op_sub (pv 2) (pv 3))) (pe_glob (by rfl) G_ROUND.choose_spec.1 G_ROUND.choose_spec.2)))))))), ?_⟩
    match e, d, eo, dp, k with
    | .one (.num m), d, eo, dp, k =>
      obtain ⟨t, rfl, ht⟩ := at_x1 (x := .num m) d
      refine ⟨_, rfl, _, _, _, _, rfl, rfl, SqT.of ht, rfl, rfl, _, rfl, ?_⟩
      refine ite2 (fun _ => ?_) (fun z => absurd (decide_eq_true rfl) z)
      exact ⟨_, rfl, _, _, _, _, rfl, rfl, SqT.of ht, rfl, _, _, rfl, rfl, (by show (0 : Int) < 1000; decide), k⟩
    | .one (.box b), d, eo, dp, k =>
      obtain ⟨t, rfl, ht⟩ := at_x1 (x := .box b) d
      refine ⟨_, rfl, _, _, _, _, rfl, rfl, SqT.of ht, rfl, rfl, _, rfl, ?_⟩
      refine ite2 (fun z => absurd (of_decide_eq_true z) (by decide)) (fun _ => ?_)
      refine ⟨_, rfl, _, _, _, _, rfl, rfl, SqT.of ht, rfl, rfl, _, rfl, ?_⟩
      refine ite2 (fun _ => ?_) (fun z => absurd (decide_eq_true rfl) z)
      have hb : b < 8 := eo
      refine ⟨_, rfl, B.h, C_Hand, B.hx, _, _, rfl, c.h, Z_Hand.cls, Z_Hand.n_in_boxes, rfl, rfl, _, rfl, _, _, _, _, rfl, rfl, SqT.of ht, rfl, _, _, b, [], rfl, rfl, bx_at' hb, _, _, _, _, rfl, rfl, SqL.of c.b, atI_nat (v := .int ((z.bs[b]?).getD 0)) ?_, k⟩
      have hl : b < z.bs.length := by rw [c.bl]; exact hb
      rw [List.getElem?_map, List.getElem?_eq_getElem hl]
      rfl
    | .two p x y, d, eo, dp, k =>
      obtain ⟨t, u, w', rfl, ht, du, dw⟩ := at_two d
      have e1 : exOk (.one x) ∧ exOk (.one y) := eo
      have dn : 1 ≤ n := by
        have : 2 ≤ n + 1 := dp
        omega
      have np : ∀ q : Bool, (Str.ofString "number") ≠ (if q then Str.ofString "plus" else Str.ofString "minus") := by decide +kernel
      have nb : ∀ q : Bool, (Str.ofString "box") ≠ (if q then Str.ofString "plus" else Str.ofString "minus") := by decide +kernel
      refine ⟨_, rfl, _, _, _, _, rfl, rfl, SqT.of ht, rfl, rfl, _, rfl, ?_⟩
      refine ite2 (fun z => absurd (by simpa using (of_decide_eq_true z).symm) (np p)) (fun _ => ?_)
      refine ⟨_, rfl, _, _, _, _, rfl, rfl, SqT.of ht, rfl, rfl, _, rfl, ?_⟩
      refine ite2 (fun z => absurd (by simpa using (of_decide_eq_true z).symm) (nb p)) (fun _ => ?_)
      refine ⟨_, rfl, B.h, B.hx, _, rfl, c.h, rfl, _, rfl, _, _, _, _, rfl, rfl, SqT.of ht, rfl, B, z, u, .one x, rfl, c, du, e1.1, dn, ?_⟩
      refine ⟨_, rfl, B.h, B.hx, _, rfl, c.h, rfl, _, rfl, _, _, _, _, rfl, rfl, SqT.of ht, rfl, B, z, w', .one y, rfl, c, dw, e1.2, dn, ?_⟩
      refine ⟨_, rfl, _, _, _, _, rfl, rfl, SqT.of ht, rfl, rfl, _, rfl, ?_⟩
      cases p with
      | true =>
        refine ite2 (fun _ => ?_) (fun z => absurd (decide_eq_true rfl) z)
        exact ⟨_, rfl, _, rfl, _, _, rfl, rfl, _, _, rfl, rfl, (by show (0 : Int) < 1000; decide), k⟩
      | false =>
        refine ite2 (fun z => absurd (of_decide_eq_true z) (by decide)) (fun _ => ?_)
        exact ⟨_, rfl, _, rfl, _, _, rfl, rfl, _, _, rfl, rfl, (by show (0 : Int) < 1000; decide), k⟩
theorem dep2 (e : Exx) : exDep e ≤ 2 := by cases e <;> simp [exDep]
/-! whether what an unless asks is so -/
def spHolds (CH : Addr) (K : PySem.W.Frag) : Sp := fun vs H Q _ => ∃ (A : HAd) (s : HandS) (v : V) (q : Bool) (e f : Exx) (n : Nat), vs = [.ref A.h, v] ∧ HdC CH H A s ∧ Dat H v (rwD (.unl q e f n)) ∧ exOk e ∧ exOk f ∧ Q (.bl (holdsR s.bs (.unl q e f n))) H
theorem ok_holds {C_Hand : Addr} {f : Addr} {fd : FuncData} (F : Fun K "holds" "Hand.holds" s_Hand_holds f fd) (M_Hand_value_of : MethAt P w K mg base 3 C_Hand "value_of" ["self", "part"] (spVal C_Hand 2 K)) (Z_Hand : Cl_Hand K C_Hand) : FnOk P w K mg base CX0 4 f fd ["self", "row"] (spHolds C_Hand K) := by
  refine F.ok sc_Hand_holds (fun vs H Q E h => ?_) (fun cdv A outer s H vs Q E hr h => ?_)
  · obtain ⟨A, s, v, q, e, f, n, rfl, _⟩ := h
    rfl
  · obtain ⟨B, z, v, q, e, f, n, rfl, c, d, o1, o2, k⟩ := h
    refine ⟨_, (pss_cons (ps_set (i := 2) sc_Hand_holds.nd rfl (Or.inl rfl) (pe_methA M_Hand_value_of Z_Hand.cls (hr.mono (by decide)) (pv 0) (pa_cons (pe_ix (ix_tupK (K := K) rfl) (pv 1) pe_int (fun _ _ => rfl)) pa_nil)))
      (pss_cons (ps_set (i := 3) sc_Hand_holds.nd rfl (Or.inl rfl) (pe_methA M_Hand_value_of Z_Hand.cls (hr.mono (by decide)) (pv 0) (pa_cons (pe_ix (ix_tupK (K := K) rfl) (pv 1) pe_int (fun _ _ => rfl)) pa_nil)))
      (pss_one (ps_ret (pe_ifExp (pt_cmpR op_eq (pe_ix (ix_tupK (K := K) rfl) (pv 1) pe_int (fun _ _ => rfl)) pe_str (nomark _)) (pe_cmpR op_eq (pv 2) (pv 3) (nomark _)) (pe_cmpR op_lt (pv 2) (pv 3) (nomark _))))))), ?_⟩
    obtain ⟨t, ws, rfl, ht, x, y, rfl, dx, dy⟩ := at_rw d
    refine ⟨_, rfl, B.h, B.hx, _, rfl, c.h, rfl, _, rfl, _, _, _, _, rfl, rfl, SqT.of ht, rfl, B, z, x, e, rfl, c, dx, o1, dep2 e, ?_⟩
    refine ⟨_, rfl, B.h, B.hx, _, rfl, c.h, rfl, _, rfl, _, _, _, _, rfl, rfl, SqT.of ht, rfl, B, z, y, f, rfl, c, dy, o2, dep2 f, ?_⟩
    refine ⟨_, rfl, _, _, _, _, rfl, rfl, SqT.of ht, rfl, rfl, _, rfl, ?_⟩
    cases q with
    | true =>
      refine ite2 (fun _ => ?_) (fun z => absurd (decide_eq_true rfl) z)
      refine ⟨_, rfl, _, rfl, rfl, ?_⟩
      have : decide (V.int (vx z.bs e) = V.int (vx z.bs f)) = holdsR z.bs (.unl true e f n) := by
        show _ = decide (vx z.bs e = vx z.bs f)
        rw [Bool.eq_iff_iff, decide_eq_true_iff, decide_eq_true_iff]
        exact ⟨fun z => V.int.inj z, fun z => by rw [z]⟩
      rw [this]
      exact k
    | false =>
      refine ite2 (fun z => absurd (of_decide_eq_true z) (by decide)) (fun _ => ?_)
      exact ⟨_, rfl, _, rfl, _, _, rfl, rfl, k⟩
/-! a box takes a number -/
def spTake (CH : Addr) (K : PySem.W.Frag) : Sp := fun vs H Q _ => ∃ (A : HAd) (s : HandS) (b : Nat) (i : Int), vs = [.ref A.h, .str (bxS b), .int i] ∧ HdC CH H A s ∧ b < 8 ∧ Q .non (upd H A.b (.lst ((s.bs.set b i).map V.int)))
theorem ok_take {C_Hand : Addr} {f : Addr} {fd : FuncData} (F : Fun K "take" "Hand.take" s_Hand_take f fd) (Z_Hand : Cl_Hand K C_Hand) (G_BOXES : Gv mg "BOXES" (.str "abcdefgh")) : FnOk P w K mg base CX0 1 f fd ["self", "box", "number"] (spTake C_Hand K) := by
  refine F.ok sc_Hand_take (fun vs H Q E h => ?_) (fun cdv A outer s H vs Q E hr h => ?_)
  · obtain ⟨A, s, b, i, rfl, _⟩ := h
    rfl
  · obtain ⟨B, z, b, i, rfl, c, hb, k⟩ := h
    refine ⟨_, (pss_one (ps_asg (pv 2) (pg_sub (pe_fldK (K := K) rfl (pv 0) rfl) (pe_bmK (K := K) rfl PySem.F.plainAttrs_str PySem.F.slot_str_index PySem.F.type_str_index mt_indexS (pe_glob (by rfl) G_BOXES.choose_spec.1 G_BOXES.choose_spec.2) (pa_cons (pv 1) pa_nil)) set_list))), ?_⟩
    refine ⟨_, rfl, _, rfl, B.h, C_Hand, B.hx, _, _, rfl, c.h, Z_Hand.cls, Z_Hand.n_in_boxes, rfl, rfl, _, rfl, _, _, b, [], rfl, rfl, bx_at' hb, ?_⟩
    rw [List.map_set] at k
    exact ⟨B.b, _, _, b, rfl, rfl, c.b, (by rw [List.length_map, c.bl]; unfold ixN; rw [if_pos (by omega), if_pos (by omega)]; simp), k⟩

/-! a row that touches no cell -/
def spDo (CH : Addr) (K : PySem.W.Frag) : Sp := fun vs H Q _ => ∃ (A : HAd) (s : HandS) (v : V) (r : Rw) (m : Nat), vs = [.ref A.h, v] ∧ HdC CH H A s ∧ Dat H v (rwD r) ∧ rwOk m r ∧ touch r = false ∧ s.sy.length < 1000000 ∧ ∀ H', HdC CH H' A (doRow s r) → KH A H H' → Q .non H'
theorem ok_do {C_Hand : Addr} {f : Addr} {fd : FuncData} (F : Fun K "do" "Hand.do" s_Hand_do f fd) (M_Hand_value_of : MethAt P w K mg base 3 C_Hand "value_of" ["self", "part"] (spVal C_Hand 2 K)) (M_Hand_take : MethAt P w K mg base 1 C_Hand "take" ["self", "box", "number"] (spTake C_Hand K)) (M_Hand_holds : MethAt P w K mg base 4 C_Hand "holds" ["self", "row"] (spHolds C_Hand K)) (Z_Hand : Cl_Hand K C_Hand) : FnOk P w K mg base CX0 5 f fd ["self", "row"] (spDo C_Hand K) := by
  refine F.ok sc_Hand_do (fun vs H Q E h => ?_) (fun cdv A outer s H vs Q E hr h => ?_)
  · obtain ⟨A, s, v, r, m, rfl, _⟩ := h
    rfl
  · obtain ⟨B, z, v, r, m, rfl, c, d, ro, tr, sl, k⟩ := h
    refine ⟨_, (pss_cons (ps_fldaugK (K := K) rfl (pv 0) pe_int ip_add)
      (pss_one (ps_if (pt_cmpR op_eq (pe_ix (ix_tupK (K := K) rfl) (pv 1) pe_int (fun _ _ => rfl)) pe_str (nomark _)) (pss_one (ps_expr (pe_methA M_Hand_take Z_Hand.cls (hr.mono (by decide)) (pv 0) (pa_cons (pe_ix (ix_tupK (K := K) rfl) (pv 1) pe_int (fun _ _ => rfl)) (pa_cons (pe_methA M_Hand_value_of Z_Hand.cls (hr.mono (by decide)) (pv 0) (pa_cons (pe_ix (ix_tupK (K := K) rfl) (pv 1) pe_int (fun _ _ => rfl)) pa_nil)) pa_nil))))) (pss_one (ps_if (pt_cmpR op_eq (pe_ix (ix_tupK (K := K) rfl) (pv 1) pe_int (fun _ _ => rfl)) pe_str (nomark _)) (pss_one (ps_expr (pe_appendK (K := K) rfl (pe_fldK (K := K) rfl (pv 0) rfl) (pa_cons (pe_methA M_Hand_value_of Z_Hand.cls (hr.mono (by decide)) (pv 0) (pa_cons (pe_ix (ix_tupK (K := K) rfl) (pv 1) pe_int (fun _ _ => rfl)) pa_nil)) pa_nil)))) (pss_one (ps_if (PW.pt (pw_or (pt_cmpR op_eq (pe_ix (ix_tupK (K := K) rfl) (pv 1) pe_int (fun _ _ => rfl)) pe_str (nomark _)) (pw_or1 (pt_not (pt_val (pe_methA M_Hand_holds Z_Hand.cls (hr.mono (by decide)) (pv 0) (pa_cons (pv 1) pa_nil))))))) (pss_one (ps_fldK (K := K) rfl (pv 0) (pe_ix (ix_tupK (K := K) rfl) (pv 1) (pe_un un_neg pe_int) (fun _ _ => rfl)) rfl)) pss_nil))))))), ?_⟩
    refine ⟨_, rfl, B.h, C_Hand, B.hx, _, _, rfl, c.h, Z_Hand.cls, Z_Hand.n_at, rfl, _, _, rfl, rfl, B.hx, _, c.h, (by show 5 < 1000; decide), ?_⟩
    rw [put_at]
    have c1 := c.seth (z.pos + 1) z.st
    have k1 : KH B H (upd H B.h (.ins C_Hand B.hx (hF B.r ((z.pos + 1 : Nat) : Int) B.b B.sy z.st))) := KH.seth
    have d1 := d.keep (c.tup k1) _ (imm_rw r)
    dsimp only
    rw [show ((z.pos : Nat) : Int) + 1 = ((z.pos + 1 : Nat) : Int) by omega]
    generalize (upd H B.h (.ins C_Hand B.hx (hF B.r ((z.pos + 1 : Nat) : Int) B.b B.sy z.st))) = H1 at c1 k1 d1 ⊢
    obtain ⟨t, ws, rfl, ht, ps⟩ := at_rw d1
    cases r with
    | load b cc => cases tr
    | store cc e => cases tr
    | swap b cc e => cases tr
    | lett b e =>
      obtain ⟨x, rfl, dx⟩ := ps
      refine ⟨_, rfl, _, _, _, _, rfl, rfl, SqT.of ht, rfl, rfl, _, rfl, ?_⟩
      refine ite2 (fun _ => ?_) (fun z => absurd (decide_eq_true rfl) z)
      refine ⟨_, rfl, B.h, B.hx, _, rfl, c1.h, rfl, _, rfl, _, _, _, _, rfl, rfl, SqT.of ht, rfl, _, rfl, B.h, B.hx, _, rfl, c1.h, rfl, _, rfl, _, _, _, _, rfl, rfl, SqT.of ht, rfl, B, _, x, e, rfl, c1, dx, ro.2, dep2 e, ?_⟩
      exact ⟨B, _, b, _, rfl, c1, ro.1, k _ (c1.setb _ (by rw [List.length_set]; exact c1.bl)) (k1.trans KH.setb)⟩
    | say e =>
      obtain ⟨x, rfl, dx⟩ := ps
      refine ⟨_, rfl, _, _, _, _, rfl, rfl, SqT.of ht, rfl, rfl, _, rfl, ?_⟩
      refine ite2 (fun z => absurd (of_decide_eq_true z) (by decide)) (fun _ => ?_)
      refine ⟨_, rfl, _, _, _, _, rfl, rfl, SqT.of ht, rfl, rfl, _, rfl, ?_⟩
      refine ite2 (fun _ => ?_) (fun z => absurd (decide_eq_true rfl) z)
      refine ⟨_, rfl, B.h, C_Hand, B.hx, _, _, rfl, c1.h, Z_Hand.cls, Z_Hand.n_sayings, rfl, .inl ⟨rfl, _, SqL.of c1.y⟩, _, rfl, B.h, B.hx, _, rfl, c1.h, rfl, _, rfl, _, _, _, _, rfl, rfl, SqT.of ht, rfl, B, _, x, e, rfl, c1, dx, ro, dep2 e, ?_⟩
      refine ⟨_, _, _, rfl, rfl, c1.y, (by rw [List.length_map, sizeLine_eq]; show z.sy.length < _; omega), ?_⟩
      have := k _ (c1.sety (z.sy ++ [vx z.bs e])) (k1.trans KH.sety)
      rw [List.map_append] at this
      exact this
    | go n =>
      obtain rfl := ps
      refine ⟨_, rfl, _, _, _, _, rfl, rfl, SqT.of ht, rfl, rfl, _, rfl, ?_⟩
      refine ite2 (fun z => absurd (of_decide_eq_true z) (by decide)) (fun _ => ?_)
      refine ⟨_, rfl, _, _, _, _, rfl, rfl, SqT.of ht, rfl, rfl, _, rfl, ?_⟩
      refine ite2 (fun z => absurd (of_decide_eq_true z) (by decide)) (fun _ => ?_)
      refine ⟨_, rfl, _, _, _, _, rfl, rfl, SqT.of ht, rfl, rfl, _, rfl, ?_⟩
      refine ite2 (fun _ => ?_) (fun z => absurd (decide_eq_true rfl) z)
      refine iteT ?_
      refine ⟨_, rfl, _, rfl, _, _, _, _, rfl, rfl, SqT.of ht, rfl, _, rfl, B.h, C_Hand, B.hx, _, rfl, c1.h, Z_Hand.cls, Z_Hand.n_at, (by show 5 < 1000; decide), ?_⟩
      rw [put_at]
      exact k _ (c1.seth n z.st) (k1.trans KH.seth)
    | unl q e f n =>
      obtain ⟨x, y, rfl, dx, dy⟩ := ps
      refine ⟨_, rfl, _, _, _, _, rfl, rfl, SqT.of ht, rfl, rfl, _, rfl, ?_⟩
      refine ite2 (fun z => absurd (of_decide_eq_true z) (by decide)) (fun _ => ?_)
      refine ⟨_, rfl, _, _, _, _, rfl, rfl, SqT.of ht, rfl, rfl, _, rfl, ?_⟩
      refine ite2 (fun z => absurd (of_decide_eq_true z) (by decide)) (fun _ => ?_)
      refine ⟨_, rfl, _, _, _, _, rfl, rfl, SqT.of ht, rfl, rfl, _, rfl, ?_⟩
      refine ite2 (fun z => absurd (of_decide_eq_true z) (by decide)) (fun _ => ?_)
      refine ⟨_, rfl, B.h, B.hx, _, rfl, c1.h, rfl, _, rfl, B, _, _, q, e, f, n, rfl, c1, d1, ro.1, ro.2, _, rfl, ?_⟩
      cases hh : holdsR z.bs (.unl q e f n) with
      | true =>
        refine iteF ?_
        refine k _ ?_ k1
        show HdC C_Hand H1 B { z with pos := if holdsR z.bs (.unl q e f n) then z.pos + 1 else n }
        rw [hh]
        exact c1
      | false =>
        refine iteT ?_
        refine ⟨_, rfl, _, rfl, _, _, _, _, rfl, rfl, SqT.of ht, rfl, _, rfl, B.h, C_Hand, B.hx, _, rfl, c1.h, Z_Hand.cls, Z_Hand.n_at, (by show 5 < 1000; decide), ?_⟩
        rw [put_at]
        refine k _ ?_ (k1.trans KH.seth)
        show HdC C_Hand _ B { z with pos := if holdsR z.bs (.unl q e f n) then z.pos + 1 else n }
        rw [hh]
        exact c1.seth n z.st

/-! on to the next touch -/
def RowsH (H : Hp) (r : Addr) (m : Nat) (rws : List Rw) : Prop := ∃ ts, H r = some (.lst ts) ∧ Dats H ts (rws.map rwD) ∧ (∀ x ∈ rws, rwOk m x) ∧ rws.length ≤ 1000
theorem imms_rws (rws : List Rw) : imms (rws.map rwD) = true := imms_map rwD imm_rw rws
theorem RowsH.keep {H H' : Hp} {r : Addr} {m : Nat} {rws : List Rw} (h : RowsH H r m rws) (k : ∀ o, H r = some o → H' r = some o) (t : ∀ x xs, H x = some (.tup xs) → H' x = some (.tup xs)) : RowsH H' r m rws := by
  obtain ⟨ts, e, d, q⟩ := h
  exact ⟨ts, k _ e, d.keep t _ (imms_rws rws), q⟩
theorem RowsH.same {H H' : Hp} {r : Addr} {m : Nat} {rws : List Rw} (h : RowsH H r m rws) (k : Same H H') : RowsH H' r m rws := h.keep (fun o e => k _ _ e) k.tups
def spLead (CH : Addr) (K : PySem.W.Frag) : Sp := fun vs H Q _ => ∃ (A : HAd) (s : HandS) (m : Nat), vs = [.ref A.h] ∧ HdC CH H A s ∧ RowsH H A.r m s.rws ∧ A.r ≠ A.b ∧ A.r ≠ A.sy ∧ s.sy.length < 900000 ∧ ∀ H', HdC CH H' A (lead s) → KH A H H' → Q .non H'
theorem ok_lead {C_Hand : Addr} {f : Addr} {fd : FuncData} (F : Fun K "lead_on" "Hand.lead_on" s_Hand_lead_on f fd) (F_cell_of : FnAt P w K mg base 1 "cell_of" ["row"] (spCellOf K)) (M_Hand_do : MethAt P w K mg base 5 C_Hand "do" ["self", "row"] (spDo C_Hand K)) (Z_Hand : Cl_Hand K C_Hand) (G_MOST_UNTOUCHING : Gv mg "MOST_UNTOUCHING" (.int 60)) (Bt : Blt mg) : FnOk P w K mg base CX0 6 f fd ["self"] (spLead C_Hand K) := by
  refine F.ok sc_Hand_lead_on (fun vs H Q E h => ?_) (fun cdv A outer s H vs Q E hr h => ?_)
  · obtain ⟨A, s, m, rfl, _⟩ := h
    rfl
  · obtain ⟨B, s, m, rfl, c, R, nrb, nry, sl, k⟩ := h
    refine ⟨_, (pss_cons (ps_set (i := 1) sc_Hand_lead_on.nd rfl (Or.inl rfl) pe_int)
      (pss_cons (ps_while PassesOwn.never (PW.pt (pw_and (pt_cmpR op_lt (pe_fldK (K := K) rfl (pv 0) rfl) (pe_callB (call_len_seqK (K := K) rfl) (by rfl) Bt.b_len bt_len (pa_cons (pe_fldK (K := K) rfl (pv 0) rfl) pa_nil)) (nomark _)) (pw_and1 (pt_cmpR op_isN (pe_fn F_cell_of (hr.mono (by decide)) (by rfl) (pa_cons (pe_ix (ix_listK (K := K) rfl) (pe_fldK (K := K) rfl (pv 0) rfl) (pe_fldK (K := K) rfl (pv 0) rfl) (fun _ _ => rfl)) pa_nil)) pe_non (nomark _))))) (pss_cons (ps_if (pt_cmpR op_eq (pv 1) (pe_glob (by rfl) G_MOST_UNTOUCHING.choose_spec.1 G_MOST_UNTOUCHING.choose_spec.2) (nomark _)) (pss_cons (ps_fldK (K := K) rfl (pv 0) pe_str rfl)
      (pss_one ps_retN)) pss_nil)
      (pss_cons (ps_expr (pe_methA M_Hand_do Z_Hand.cls (hr.mono (by decide)) (pv 0) (pa_cons (pe_ix (ix_listK (K := K) rfl) (pe_fldK (K := K) rfl (pv 0) rfl) (pe_fldK (K := K) rfl (pv 0) rfl) (fun _ _ => rfl)) pa_nil)))
      (pss_one (ps_aug (i := 1) sc_Hand_lead_on.nd rfl (Or.inl rfl) pe_int ip_add)))))
      (pss_one (ps_fldK (K := K) rfl (pv 0) (pe_ifExp (pt_cmpR op_lt (pe_fldK (K := K) rfl (pv 0) rfl) (pe_callB (call_len_seqK (K := K) rfl) (by rfl) Bt.b_len bt_len (pa_cons (pe_fldK (K := K) rfl (pv 0) rfl) pa_nil)) (nomark _)) pe_str pe_str) rfl)))), ?_⟩
    have nrh : B.r ≠ B.h := by
      obtain ⟨ts, e, _⟩ := R
      exact ne_of e c.h (by intro z; cases z)
    refine ⟨fun n σ H1 => ∃ (d : Nat) (z : HandS), σ = [some (.ref B.h), some (.int d)] ∧ d ≤ 60 ∧ n = 60 - d ∧ HdC C_Hand H1 B z ∧ KH B H H1 ∧ led (60 - d) z = lead s ∧ z.rws = s.rws ∧ z.sy.length ≤ s.sy.length + d,
      ⟨60, 0, s, rfl, by decide, rfl, c, KH.of_same (Same.refl _), rfl, rfl, Nat.le_refl _⟩, fun n σ H1 hσ => ?_⟩
    obtain ⟨d, z, rfl, d60, rfl, c1, k1, hl, zr, zs⟩ := hσ
    have R1 : RowsH H1 B.r m z.rws := by
      rw [zr]
      exact R.keep (fun o e => k1 _ _ e nrh nrb nry) (c.tup k1)
    obtain ⟨ts, hts, dts, ro, rl⟩ := R1
    have ln : ts.length = z.rws.length := by rw [dts.length, List.length_map]
    refine ⟨_, rfl, B.h, C_Hand, B.hx, _, _, rfl, c1.h, Z_Hand.cls, Z_Hand.n_at, rfl, _, rfl, B.h, C_Hand, B.hx, _, _, rfl, c1.h, Z_Hand.cls, Z_Hand.n_rows, rfl, B.r, _, rfl, .inl (SqL.of hts), _, _, rfl, rfl, _, rfl, ?_⟩
    cases er : z.rws[z.pos]? with
    | none =>
      have ge : z.rws.length ≤ z.pos := List.getElem?_eq_none_iff.mp er
      have lf : ¬ decide (((z.pos : Nat) : Int) < ((ts.length : Nat) : Int)) = true := by rw [ln]; simp; omega
      refine ite2 (fun q => absurd q lf) (fun _ => ?_)
      refine iteF ?_
      refine ⟨_, rfl, B.h, C_Hand, B.hx, _, _, rfl, c1.h, Z_Hand.cls, Z_Hand.n_at, rfl, _, rfl, B.h, C_Hand, B.hx, _, _, rfl, c1.h, Z_Hand.cls, Z_Hand.n_rows, rfl, B.r, _, rfl, .inl (SqL.of hts), _, _, rfl, rfl, _, rfl, ?_⟩
      refine ite2 (fun q => absurd q lf) (fun _ => ?_)
      refine ⟨_, rfl, B.h, C_Hand, B.hx, _, rfl, c1.h, Z_Hand.cls, Z_Hand.n_state, (by show 5 < 1000; decide), ?_⟩
      rw [put_st]
      refine k _ ?_ (k1.trans KH.seth)
      have : lead s = { z with st := "ends" } := by
        rw [← hl]
        cases e60 : 60 - d <;> simp only [led, er]
      rw [this]
      exact c1.seth z.pos "ends"
    | some r =>
      have lt : z.pos < z.rws.length := (List.getElem?_eq_some_iff.mp er).1
      have lT : decide (((z.pos : Nat) : Int) < ((ts.length : Nat) : Int)) = true := by rw [ln]; simp; omega
      obtain ⟨v, ev, dv⟩ := dts.getD (i := z.pos) (d := rwD r) (by rw [List.getElem?_map, er]; rfl)
      refine ite2 (fun _ => ?_) (fun q => absurd lT q)
      refine ⟨_, rfl, B.h, C_Hand, B.hx, _, _, rfl, c1.h, Z_Hand.cls, Z_Hand.n_rows, rfl, _, rfl, B.h, C_Hand, B.hx, _, _, rfl, c1.h, Z_Hand.cls, Z_Hand.n_at, rfl, _, _, _, _, rfl, rfl, SqL.of hts, atI_nat ev, v, r, rfl, dv, fun H2 s2 => ⟨rfl, _, rfl, ?_⟩⟩
      have c2 := c1.same s2
      have hts2 := s2 _ _ hts
      have k2 := k1.trans (KH.of_same (A := B) s2)
      cases tr : touch r with
      | true =>
        refine ite2 (fun q => absurd (of_decide_eq_true q) (by unfold cellV; rw [if_pos tr]; intro z; cases z)) (fun _ => ?_)
        refine ⟨_, rfl, B.h, C_Hand, B.hx, _, _, rfl, c2.h, Z_Hand.cls, Z_Hand.n_at, rfl, _, rfl, B.h, C_Hand, B.hx, _, _, rfl, c2.h, Z_Hand.cls, Z_Hand.n_rows, rfl, B.r, _, rfl, .inl (SqL.of hts2), _, _, rfl, rfl, _, rfl, ?_⟩
        refine ite2 (fun _ => ?_) (fun q => absurd lT q)
        refine ⟨_, rfl, B.h, C_Hand, B.hx, _, rfl, c2.h, Z_Hand.cls, Z_Hand.n_state, (by show 5 < 1000; decide), ?_⟩
        rw [put_st]
        refine k _ ?_ (k2.trans KH.seth)
        have : lead s = { z with st := "waits" } := by
          rw [← hl]
          cases e60 : 60 - d <;> simp only [led, er, tr, if_true]
        rw [this]
        exact c2.seth z.pos "waits"
      | false =>
        refine ite2 (fun _ => ?_) (fun q => absurd (decide_eq_true (by unfold cellV; rw [if_neg (by rw [tr]; decide)])) q)
        refine ⟨fun σ' H' => ∃ m', m' < 60 - d ∧ ∃ (d : Nat) (z : HandS), σ' = [some (.ref B.h), some (.int d)] ∧ d ≤ 60 ∧ m' = 60 - d ∧ HdC C_Hand H' B z ∧ KH B H H' ∧ led (60 - d) z = lead s ∧ z.rws = s.rws ∧ z.sy.length ≤ s.sy.length + d, fun _ _ q => q, ?_⟩
        refine ⟨_, rfl, rfl, _, rfl, ?_⟩
        by_cases e6 : d = 60
        · subst e6
          refine ite2 (fun _ => ?_) (fun q => absurd (decide_eq_true rfl) q)
          refine ⟨_, rfl, B.h, C_Hand, B.hx, _, rfl, c2.h, Z_Hand.cls, Z_Hand.n_state, (by show 5 < 1000; decide), ?_⟩
          rw [put_st]
          refine k _ ?_ (k2.trans KH.seth)
          have : lead s = { z with st := "lost" } := by
            rw [← hl]
            show led 0 z = _
            simp only [led, er, tr]
            rfl
          rw [this]
          exact c2.seth z.pos "lost"
        · refine ite2 (fun q => absurd (by have := V.int.inj (of_decide_eq_true q); omega) e6) (fun _ => ?_)
          refine ⟨_, rfl, B.h, B.hx, _, rfl, c2.h, rfl, _, rfl, B.h, C_Hand, B.hx, _, _, rfl, c2.h, Z_Hand.cls, Z_Hand.n_rows, rfl, _, rfl, B.h, C_Hand, B.hx, _, _, rfl, c2.h, Z_Hand.cls, Z_Hand.n_at, rfl, _, _, _, _, rfl, rfl, SqL.of hts2, atI_nat ev, B, z, v, r, m, rfl, c2, dv.same s2 _, ro r (List.mem_of_getElem? er), tr, by omega, fun H3 c3 k3 => ?_⟩
          refine ⟨_, rfl, _, _, rfl, rfl, 60 - (d + 1), by omega, d + 1, doRow z r, rfl, by omega, rfl, c3, k2.trans k3, ?_, by rw [doRow_rws, zr], ?_⟩
          · rw [← hl, show 60 - d = (60 - (d + 1)) + 1 by omega]
            simp only [led, er, tr]
            rfl
          · have := doRow_sy z r
            omega

/-! ### works in general -/
def wF (pg nb hs tn : Addr) : List (Str × V) := [("program", .ref pg), ("numbers", .ref nb), ("hands", .ref hs), ("turns", .ref tn)]
/-! first numbers -/
def numOkL (m : Int) (ns : List Int) : Prop := (ns.length : Int) = m ∧ ∀ x ∈ ns, 0 ≤ x ∧ x < 1000
def spCheckNum (CN : Addr) (K : PySem.W.Frag) : Sp := fun vs H Q E => ∃ (cl : Addr) (m : Int) (ns : List Int), vs = [.ref cl, .int m] ∧ H cl = some (.lst (ns.map V.int)) ∧ ns.length ≤ 100 ∧ (numOkL m ns → ∀ H', Same H H' → Q .non H') ∧ (¬ numOkL m ns → ∀ H', Same H H' → E (.ref CN) none H')
theorem ok_checkNum {f : Addr} {fd : FuncData} (F : Fun K "check_numbers" "check_numbers" s_check_numbers f fd) (F_is_below : FnAt P w K mg base 2 "is_below" ["value", "count"] (spBelow K)) (G_ROUND : Gv mg "ROUND" (.int 1000)) (Bt : Blt mg) {C_NoNumber : Addr} (X_NoNumber : Xr K mg C_NoNumber "NoNumber") : FnOk P w K mg base (CX1 P w) 3 f fd ["cells", "count"] (spCheckNum C_NoNumber K) := by
  refine F.okX sc_check_numbers (fun vs H Q E h => ?_) (fun cdv A outer s H vs Q E hr h hR => ?_)
  · obtain ⟨cl, m, ns, rfl, _⟩ := h
    rfl
  · obtain ⟨cl, m, ns, rfl, hc, nl, k1, k2⟩ := h
    refine ⟨_, (pss_cons (ps_if (PW.pt (pw_or (pt_not (pt_val (pe_callB (call_isiK (K := K) (cv := .ty "list") (c := .type "list") rfl rfl) (by rfl) Bt.b_isinstance bt_isinstance (pa_cons (pv 0) (pa_cons (pe_bltn (v := .ty "list") (by rfl) Bt.b_list bt_list rfl) pa_nil))))) (pw_or1 (pt_cmpR op_ne (pe_callB (call_len_seqK (K := K) rfl) (by rfl) Bt.b_len bt_len (pa_cons (pv 0) pa_nil)) (pv 1) (nomark _))))) (pss_one (ps_raise PySem.F.excBase_ValueError X_NoNumber.ex X_NoNumber.bd (by rfl) rfl rfl hR (pa_cons pe_str pa_nil))) pss_nil)
      (pss_one (ps_if (pt_not (pt_val (pe_callB (call_all_boolsK (K := K) rfl rfl) (by rfl) Bt.b_all bt_all (pa_cons (pe_comp rfl (N := ["number"]) (own := ["number"]) (caps := []) (CompScope.of (by kernel_rfl)) (pi_listK (K := K) rfl (pv 0)) (fun _ _ _ _ => (pg_name (i := 0) (show List.Nodup (["number"] : List Str) by decide +kernel) rfl (Or.inl rfl))) (fun _ _ _ _ => pts_nil) (fun _ _ _ _ => (pe_fn F_is_below (hr.mono (by decide)) (by rfl) (pa_cons (pv 0) (pa_cons (pe_glob (by rfl) G_ROUND.choose_spec.1 G_ROUND.choose_spec.2) pa_nil))))) pa_nil)))) (pss_one (ps_raise PySem.F.excBase_ValueError X_NoNumber.ex X_NoNumber.bd (by rfl) rfl rfl hR (pa_cons pe_str pa_nil))) pss_nil))), ?_⟩
    refine ⟨_, rfl, _, _, true, rfl, .lst hc, isi_list_list K, true, rfl, ?_⟩
    refine iteF ?_
    refine ⟨_, rfl, cl, _, rfl, .inl (SqL.of hc), _, rfl, rfl, _, rfl, ?_⟩
    rw [List.length_map]
    by_cases el : (ns.length : Int) = m
    rotate_left
    · refine ite2 (fun _ => ?_) (fun z => absurd (by simp [el]) z)
      exact ⟨(by show 1 ≤ sizeLine; decide), k2 (fun z => el z.1) H (Same.refl _)⟩
    refine iteNS (by rw [el]) ?_
    refine ⟨_, rfl, cl, rfl, ⟨_, SqL.of hc⟩, fun D hD => ?_⟩
    refine comp_val (K := K) (fun i => (ns[i]?).map fun x => V.bl (decide (inP x 1000))) hD (SqL.of hc) (by rw [List.length_map]; omega) (fun i v H2 G F hi s2 kG kF => ?_) (fun H2 s2 e2 => ?_)
    · rw [List.getElem?_map] at hi
      cases ei : ns[i]? with
      | none => rw [ei] at hi; cases hi
      | some z =>
        rw [ei] at hi
        cases hi
        exact ⟨_, rfl, z, 1000, rfl, kF _ H2 (Same.refl _) (by rw [ei]; rfl)⟩
    rw [List.length_map, fm_some] at e2
    refine ⟨D, ns.map (fun x => decide (inP x 1000)), rfl, SqL.of (by rw [e2, List.map_map]; rfl), _, rfl, ?_⟩
    by_cases al : ∀ x ∈ ns, inP x 1000
    · have ea : (ns.map (fun x => decide (inP x 1000))).all id = true := by
        rw [List.all_map, List.all_eq_true]
        intro h hh
        exact decide_eq_true (al h hh)
      rw [ea]
      refine iteF ?_
      exact k1 ⟨el, fun x hx => al x hx⟩ H2 s2
    · have ea : (ns.map (fun x => decide (inP x 1000))).all id = false := by
        rw [List.all_map, ← Bool.not_eq_true, List.all_eq_true]
        intro z
        exact al fun h hh => of_decide_eq_true (p := inP h 1000) (z h hh)
      rw [ea]
      refine iteT ?_
      exact ⟨(by show 1 ≤ sizeLine; decide), k2 (fun z => al fun x hx => z.2 x hx) H2 s2⟩
/-! a touch -/
def spTouchBy (CW CH : Addr) (K : PySem.W.Frag) : Sp := fun vs H Q _ => ∃ (o dx pg nb hl tn : Addr) (A : HAd) (s : HandS) (m : Nat) (ns : List Int) (r : Rw), vs = [.ref o, .ref A.h] ∧ H o = some (.ins CW dx (wF pg nb hl tn)) ∧ H nb = some (.lst (ns.map V.int)) ∧ ns.length = m ∧ HdC CH H A s ∧ RowsH H A.r m s.rws ∧
  s.rws[s.pos]? = some r ∧ touch r = true ∧ nb ≠ A.b ∧ nb ≠ A.sy ∧
  ∀ t H', H t = none → H' t = some (.tup (touchV ns s.bs r)) → HdC CH H' A { s with bs := boxesR ns s.bs r } → H' nb = some (.lst ((cellsR ns s.bs r).map V.int)) → (∀ x u, H x = some u → x ≠ nb → x ≠ A.b → H' x = some u) → Q (.ref t) H'
theorem ok_touchBy {C_Works C_Hand : Addr} {f : Addr} {fd : FuncData} (F : Fun K "touch_by" "Works.touch_by" s_Works_touch_by f fd) (F_cell_of : FnAt P w K mg base 1 "cell_of" ["row"] (spCellOf K)) (M_Hand_value_of : MethAt P w K mg base 3 C_Hand "value_of" ["self", "part"] (spVal C_Hand 2 K)) (M_Hand_take : MethAt P w K mg base 1 C_Hand "take" ["self", "box", "number"] (spTake C_Hand K)) (Z_Works : Cl_Works K C_Works) (Z_Hand : Cl_Hand K C_Hand) : FnOk P w K mg base CX0 4 f fd ["self", "one"] (spTouchBy C_Works C_Hand K) := by
  refine F.ok sc_Works_touch_by (fun vs H Q E h => ?_) (fun cdv A outer s H vs Q E hr h => ?_)
  · obtain ⟨o, dx, pg, nb, hl, tn, A, s, m, ns, r, rfl, _⟩ := h
    rfl
  · obtain ⟨o, dx, pg, nb, hl, tn, B, z, m, ns, r, rfl, ho, hnb, nl, c, R, er, tr, nnb, nny, k⟩ := h
    refine ⟨_, (pss_cons (ps_set (i := 2) sc_Works_touch_by.nd rfl (Or.inl rfl) (pe_ix (ix_listK (K := K) rfl) (pe_fldK (K := K) rfl (pv 1) rfl) (pe_fldK (K := K) rfl (pv 1) rfl) (fun _ _ => rfl)))
      (pss_cons (ps_set (i := 3) sc_Works_touch_by.nd rfl (Or.inl rfl) (pe_fn F_cell_of (hr.mono (by decide)) (by rfl) (pa_cons (pv 2) pa_nil)))
      (pss_cons (ps_set (i := 4) sc_Works_touch_by.nd rfl (Or.inl rfl) (pe_ifExp (pt_cmpR op_eq (pe_ix (ix_tupK (K := K) rfl) (pv 2) pe_int (fun _ _ => rfl)) pe_str (nomark _)) pe_non (pe_ix (ix_listK (K := K) rfl) (pe_fldK (K := K) rfl (pv 0) rfl) (pv 3) (fun _ _ => rfl))))
      (pss_cons (ps_set (i := 5) sc_Works_touch_by.nd rfl (Or.inl rfl) (pe_ifExp (pt_cmpR op_eq (pe_ix (ix_tupK (K := K) rfl) (pv 2) pe_int (fun _ _ => rfl)) pe_str (nomark _)) pe_non (pe_methA M_Hand_value_of Z_Hand.cls (hr.mono (by decide)) (pv 1) (pa_cons (pe_ix (ix_tupK (K := K) rfl) (pv 2) (pe_un un_neg pe_int) (fun _ _ => rfl)) pa_nil))))
      (pss_cons (ps_if (pt_cmpR op_notN (pv 4) pe_non (nomark _)) (pss_one (ps_expr (pe_methA M_Hand_take Z_Hand.cls (hr.mono (by decide)) (pv 1) (pa_cons (pe_ix (ix_tupK (K := K) rfl) (pv 2) pe_int (fun _ _ => rfl)) (pa_cons (pv 4) pa_nil))))) pss_nil)
      (pss_cons (ps_if (pt_cmpR op_notN (pv 5) pe_non (nomark _)) (pss_one (ps_asg (pv 5) (pg_sub (pe_fldK (K := K) rfl (pv 0) rfl) (pv 3) set_list))) pss_nil)
      (pss_one (ps_ret (pe_tup (pa_cons (pe_ix (ix_tupK (K := K) rfl) (pv 2) pe_int (fun _ _ => rfl)) (pa_cons (pv 3) (pa_cons (pv 4) (pa_cons (pv 5) pa_nil))))))))))))), ?_⟩
    obtain ⟨ts, hts, dts, ro, rl⟩ := R
    obtain ⟨v, ev, dv⟩ := dts.getD (i := z.pos) (d := rwD r) (by rw [List.getElem?_map, er]; rfl)
    have rok := ro r (List.mem_of_getElem? er)
    refine ⟨_, rfl, B.h, C_Hand, B.hx, _, _, rfl, c.h, Z_Hand.cls, Z_Hand.n_rows, rfl, _, rfl, B.h, C_Hand, B.hx, _, _, rfl, c.h, Z_Hand.cls, Z_Hand.n_at, rfl, _, _, _, _, rfl, rfl, SqL.of hts, atI_nat ev, ?_⟩
    refine ⟨_, rfl, v, r, rfl, dv, fun H1 s1 => ?_⟩
    have c1 := c.same s1
    have ho1 := s1 _ _ ho
    have hnb1 := s1 _ _ hnb
    obtain ⟨t, ws, rfl, ht, ps⟩ := at_rw (dv.same s1 _)
    have nob : o ≠ nb := ne_of ho1 hnb1 (by intro z; cases z)
    have noB : o ≠ B.b := ne_of ho1 c1.b (by intro z; cases z)
    have ntb : t ≠ B.b := ne_of ht c1.b (by intro z; cases z)
    have ntn : t ≠ nb := ne_of ht hnb1 (by intro z; cases z)
    have cellOf : ∀ cc, cc < m → ns[cc]? = some ((ns[cc]?).getD 0) := fun cc h => by rw [List.getElem?_eq_getElem (by omega)]; rfl
    have cellAt : ∀ cc, cc < m → (ns.map V.int)[cc]? = some (.int ((ns[cc]?).getD 0)) := fun cc h => by rw [List.getElem?_map, cellOf cc h]; rfl
    have ixAt : ∀ cc, cc < m → ixN (ns.map V.int).length ((cc : Nat) : Int) = some cc := fun cc h => by rw [List.length_map]; unfold ixN; rw [if_pos (by omega), if_pos (by omega)]; simp
    cases r with
    | load b cc =>
      obtain rfl := ps
      refine ⟨_, rfl, _, _, _, _, rfl, rfl, SqT.of ht, rfl, rfl, _, rfl, ?_⟩
      refine ite2 (fun z => absurd (of_decide_eq_true z) (by decide)) (fun _ => ?_)
      refine ⟨_, rfl, o, C_Works, dx, _, _, rfl, ho1, Z_Works.cls, Z_Works.n_numbers, rfl, _, rfl, _, _, _, _, rfl, rfl, SqL.of hnb1, atI_nat (cellAt cc rok.2), ?_⟩
      refine ⟨_, rfl, _, _, _, _, rfl, rfl, SqT.of ht, rfl, rfl, _, rfl, ?_⟩
      refine ite2 (fun _ => ?_) (fun z => absurd (decide_eq_true rfl) z)
      refine ⟨_, rfl, rfl, _, rfl, ?_⟩
      refine iteT ?_
      refine ⟨_, rfl, B.h, B.hx, _, rfl, c1.h, rfl, _, rfl, _, _, _, _, rfl, rfl, SqT.of ht, rfl, _, rfl, B, z, b, _, rfl, c1, rok.1, ?_⟩
      refine ⟨_, rfl, rfl, _, rfl, ?_⟩
      refine iteF ?_
      have c2 := c1.setb (z.bs.set b ((ns[cc]?).getD 0)) (by rw [List.length_set]; exact c1.bl)
      refine ⟨_, rfl, _, _, _, _, rfl, rfl, SqT.of (by rw [upd_ne ntb]; exact ht), rfl, _, rfl, _, rfl, _, rfl, (by show 4 ≤ sizeLine; decide), fun p hp => ?_⟩
      have sp := same_new (o := HO.tup [V.str (Str.ofString "load"), V.int cc, V.int ((ns[cc]?).getD 0), V.non]) hp
      refine k p _ ?_ ?_ (c2.same sp) (sp _ _ (by rw [upd_ne nnb]; exact hnb1)) ?_
      · refine s1.free ?_
        have : p ≠ B.b := fun e => by rw [e, upd_same] at hp; cases hp
        rw [upd_ne this] at hp
        exact hp
      · rw [upd_same]
        show some (HO.tup [V.str (Str.ofString "load"), V.int cc, V.int ((ns[cc]?).getD 0), V.non]) = some (HO.tup [V.str (Str.ofString "load"), V.int cc, oV (ns[cc]?), V.non])
        rw [cellOf cc rok.2]
        rfl
      · intro x u e n1 n2
        exact sp _ _ (by rw [upd_ne n2]; exact s1 _ _ e)
    | store cc e =>
      obtain ⟨x, rfl, dx'⟩ := ps
      refine ⟨_, rfl, _, _, _, _, rfl, rfl, SqT.of ht, rfl, rfl, _, rfl, ?_⟩
      refine ite2 (fun _ => ?_) (fun z => absurd (decide_eq_true rfl) z)
      refine ⟨_, rfl, _, _, _, _, rfl, rfl, SqT.of ht, rfl, rfl, _, rfl, ?_⟩
      refine ite2 (fun z => absurd (of_decide_eq_true z) (by decide)) (fun _ => ?_)
      refine ⟨_, rfl, B.h, B.hx, _, rfl, c1.h, rfl, _, rfl, _, rfl, _, _, _, _, rfl, rfl, SqT.of ht, rfl, B, z, x, e, rfl, c1, dx', rok.2, dep2 e, ?_⟩
      refine ⟨_, rfl, rfl, _, rfl, ?_⟩
      refine iteF ?_
      refine ⟨_, rfl, rfl, _, rfl, ?_⟩
      refine iteT ?_
      refine ⟨_, rfl, _, rfl, o, C_Works, dx, _, _, rfl, ho1, Z_Works.cls, Z_Works.n_numbers, rfl, _, rfl, nb, _, _, cc, rfl, rfl, hnb1, ixAt cc rok.1, ?_⟩
      rw [← List.map_set]
      refine ⟨_, rfl, _, _, _, _, rfl, rfl, SqT.of (by rw [upd_ne ntn]; exact ht), rfl, _, rfl, _, rfl, _, rfl, (by show 4 ≤ sizeLine; decide), fun p hp => ?_⟩
      have sp := same_new (o := HO.tup [V.str (Str.ofString "store"), V.int cc, V.non, V.int (vx z.bs e)]) hp
      have nbh : B.h ≠ nb := ne_of c1.h hnb1 (by intro z; cases z)
      refine k p _ ?_ upd_same (HdC.same ⟨by rw [upd_ne nbh]; exact c1.h, by rw [upd_ne nnb.symm]; exact c1.b, by rw [upd_ne nny.symm]; exact c1.y, c1.nby, c1.bl⟩ sp) (sp _ _ upd_same) ?_
      · refine s1.free ?_
        have : p ≠ nb := fun e => by rw [e, upd_same] at hp; cases hp
        rw [upd_ne this] at hp
        exact hp
      · intro x u e n1 n2
        exact sp _ _ (by rw [upd_ne n1]; exact s1 _ _ e)
    | swap b cc e =>
      obtain ⟨x, rfl, dx'⟩ := ps
      refine ⟨_, rfl, _, _, _, _, rfl, rfl, SqT.of ht, rfl, rfl, _, rfl, ?_⟩
      refine ite2 (fun z => absurd (of_decide_eq_true z) (by decide)) (fun _ => ?_)
      refine ⟨_, rfl, o, C_Works, dx, _, _, rfl, ho1, Z_Works.cls, Z_Works.n_numbers, rfl, _, rfl, _, _, _, _, rfl, rfl, SqL.of hnb1, atI_nat (cellAt cc rok.2.1), ?_⟩
      refine ⟨_, rfl, _, _, _, _, rfl, rfl, SqT.of ht, rfl, rfl, _, rfl, ?_⟩
      refine ite2 (fun z => absurd (of_decide_eq_true z) (by decide)) (fun _ => ?_)
      refine ⟨_, rfl, B.h, B.hx, _, rfl, c1.h, rfl, _, rfl, _, rfl, _, _, _, _, rfl, rfl, SqT.of ht, rfl, B, z, x, e, rfl, c1, dx', rok.2.2, dep2 e, ?_⟩
      refine ⟨_, rfl, rfl, _, rfl, ?_⟩
      refine iteT ?_
      refine ⟨_, rfl, B.h, B.hx, _, rfl, c1.h, rfl, _, rfl, _, _, _, _, rfl, rfl, SqT.of ht, rfl, _, rfl, B, z, b, _, rfl, c1, rok.1, ?_⟩
      refine ⟨_, rfl, rfl, _, rfl, ?_⟩
      refine iteT ?_
      have c2 := c1.setb (z.bs.set b ((ns[cc]?).getD 0)) (by rw [List.length_set]; exact c1.bl)
      have hnb2 : (upd H1 B.b (.lst ((z.bs.set b ((ns[cc]?).getD 0)).map V.int))) nb = some (.lst (ns.map V.int)) := by rw [upd_ne nnb]; exact hnb1
      refine ⟨_, rfl, _, rfl, o, C_Works, dx, _, _, rfl, (by rw [upd_ne noB]; exact ho1), Z_Works.cls, Z_Works.n_numbers, rfl, _, rfl, nb, _, _, cc, rfl, rfl, hnb2, ixAt cc rok.2.1, ?_⟩
      rw [← List.map_set]
      refine ⟨_, rfl, _, _, _, _, rfl, rfl, SqT.of (by rw [upd_ne ntn, upd_ne ntb]; exact ht), rfl, _, rfl, _, rfl, _, rfl, (by show 4 ≤ sizeLine; decide), fun p hp => ?_⟩
      have sp := same_new (o := HO.tup [V.str (Str.ofString "swap"), V.int cc, V.int ((ns[cc]?).getD 0), V.int (vx z.bs e)]) hp
      have nbh : B.h ≠ nb := ne_of c1.h hnb1 (by intro z; cases z)
      refine k p _ ?_ ?_ (HdC.same ⟨by rw [upd_ne nbh]; exact c2.h, by rw [upd_ne nnb.symm]; exact c2.b, by rw [upd_ne nny.symm]; exact c2.y, c2.nby, c2.bl⟩ sp) (sp _ _ upd_same) ?_
      · refine s1.free ?_
        have n1 : p ≠ nb := fun e => by rw [e, upd_same] at hp; cases hp
        rw [upd_ne n1] at hp
        have n2 : p ≠ B.b := fun e => by rw [e, upd_same] at hp; cases hp
        rw [upd_ne n2] at hp
        exact hp
      · rw [upd_same]
        show some (HO.tup [V.str (Str.ofString "swap"), V.int cc, V.int ((ns[cc]?).getD 0), V.int (vx z.bs e)]) = some (HO.tup [V.str (Str.ofString "swap"), V.int cc, oV (ns[cc]?), V.int (vx z.bs e)])
        rw [cellOf cc rok.2.1]
        rfl
      · intro x u e n1 n2
        exact sp _ _ (by rw [upd_ne n1, upd_ne n2]; exact s1 _ _ e)
    | lett b e => cases tr
    | say e => cases tr
    | go n => cases tr
    | unl q e f n => cases tr

/-! a works at the heap -/
structure WAd where
  (o dx pg L nb hl tn : Addr) (rs : List Addr) (hd : List HAd)
structure HdAt (CH : Addr) (i k m : Nat) (τ : Tg) (H : Hp) (A : HAd) (s : HandS) : Prop where
  c : HdC CH H A s
  r : RowsH H A.r m s.rws
  tr : τ A.r = [0]
  th : τ A.h = [i, 4, k]
  tb : τ A.b = [i, 5, k]
  ty : τ A.sy = [i, 6, k]
structure WAt (CW CH : Addr) (i : Nat) (τ : Tg) (H : Hp) (W : WAd) (S : WkS) : Prop where
  un : Unt τ H
  i0 : i ≠ 0
  o : H W.o = some (.ins CW W.dx (wF W.pg W.nb W.hl W.tn))
  pg : H W.pg = some (.tup [.int S.m, .ref W.L])
  L : H W.L = some (.lst (W.rs.map V.ref))
  nb : H W.nb = some (.lst (S.ns.map V.int))
  hl : H W.hl = some (.lst (W.hd.map fun a => .ref a.h))
  tn : H W.tn = some (.lst (S.ts.map V.int))
  to : τ W.o = [i, 0]
  tb : τ W.nb = [i, 1]
  tl : τ W.hl = [i, 2]
  tt : τ W.tn = [i, 3]
  tL : τ W.L = [0]
  rl : W.rs.length = S.hs.length
  rs : ∀ (k : Nat) (r : Addr) (s : HandS), W.rs[k]? = some r → S.hs[k]? = some s → τ r = [0] ∧ RowsH H r S.m s.rws
  len : W.hd.length = S.hs.length
  hd : ∀ (k : Nat) (A : HAd) (s : HandS), W.hd[k]? = some A → S.hs[k]? = some s → HdAt CH i k S.m τ H A s
  ok : ∀ s ∈ S.hs, HOk s
  sl : ∀ s ∈ S.hs, s.sy.length ≤ 60 * (S.ts.length + 1)
  nl : S.ns.length = S.m
  hn : S.hs.length ≤ 100
section
variable {CW CH : Addr} {i : Nat} {τ τ' : Tg} {H H' : Hp} {W : WAd} {S : WkS}
theorem HdAt.mv {k m : Nat} {A : HAd} {s : HandS} (h : HdAt CH i k m τ H A s) (q : Mv i τ H τ' H') : HdAt CH i k m τ' H' A s := by
  obtain ⟨⟨c1, c2, c3, c4, c5⟩, r, tr, th, tb, ty⟩ := h
  have e1 := q.keep _ _ c1 (.inr (by rw [th]; rfl))
  have e2 := q.keep _ _ c2 (.inr (by rw [tb]; rfl))
  have e3 := q.keep _ _ c3 (.inr (by rw [ty]; rfl))
  have rr := r
  obtain ⟨ts, hr, _⟩ := rr
  have e4 := q.keep _ _ hr (.inl tr)
  exact ⟨⟨e1.1, e2.1, e3.1, c4, c5⟩, r.keep (fun o e => (q.keep _ _ e (.inl tr)).1) q.tup, e4.2.trans tr, e1.2.trans th, e2.2.trans tb, e3.2.trans ty⟩
theorem rows_mv {r : Addr} {m : Nat} {rws : List Rw} (h : τ r = [0] ∧ RowsH H r m rws) (q : Mv i τ H τ' H') : τ' r = [0] ∧ RowsH H' r m rws := by
  obtain ⟨t, R⟩ := h
  have rr := R
  obtain ⟨ts, hr, _⟩ := rr
  have e4 := q.keep _ _ hr (.inl t)
  exact ⟨e4.2.trans t, R.keep (fun o e => (q.keep _ _ e (.inl t)).1) q.tup⟩
theorem WAt.mv (w : WAt CW CH i τ H W S) (q : Mv i τ H τ' H') (u : Unt τ' H') : WAt CW CH i τ' H' W S := by
  have e1 := q.keep _ _ w.o (.inr (by rw [w.to]; rfl))
  have e2 := q.keep _ _ w.nb (.inr (by rw [w.tb]; rfl))
  have e3 := q.keep _ _ w.hl (.inr (by rw [w.tl]; rfl))
  have e4 := q.keep _ _ w.tn (.inr (by rw [w.tt]; rfl))
  have e5 := q.keep _ _ w.L (.inl w.tL)
  exact ⟨u, w.i0, e1.1, q.tup _ _ w.pg, e5.1, e2.1, e3.1, e4.1, e1.2.trans w.to, e2.2.trans w.tb, e3.2.trans w.tl, e4.2.trans w.tt, e5.2.trans w.tL, w.rl, fun k r s h1 h2 => rows_mv (w.rs k r s h1 h2) q, w.len, fun k A s h1 h2 => (w.hd k A s h1 h2).mv q, w.ok, w.sl, w.nl, w.hn⟩
theorem WAt.same (w : WAt CW CH i τ H W S) (k : Same H H') : WAt CW CH i τ H' W S := w.mv (Mv.of_same k) (w.un.same k)
/-- a list of nobody's is written -/
theorem WAt.kp {a : Addr} {o : HO} (w : WAt CW CH i τ H W S) (k : Kp a H H') (ha : H a = some o) (hn : ∀ xs, o ≠ .tup xs) (ht : τ a = []) (ha' : ∃ o', H' a = some o') : WAt CW CH i τ H' W S :=
  w.mv (Mv.of_kp k ha hn ht) (w.un.dom fun x e => by
    by_cases z : x = a
    · obtain ⟨o', h'⟩ := ha'
      rw [z, h'] at e
      cases e
    · exact kp_none k z e)
theorem WAt.hand {k : Nat} {s : HandS} (w : WAt CW CH i τ H W S) (h : S.hs[k]? = some s) : ∃ A, W.hd[k]? = some A ∧ HdAt CH i k S.m τ H A s := by
  have : k < W.hd.length := by rw [w.len]; exact (List.getElem?_eq_some_iff.mp h).1
  exact ⟨W.hd[k], by simp [this], w.hd k _ _ (by simp [this]) h⟩
end
/-! a hand by its number -/
def spHandOf (CW CH CN : Addr) (K : PySem.W.Frag) : Sp := fun vs H Q E => ∃ (i : Nat) (τ : Tg) (W : WAd) (S : WkS) (h : Int), vs = [.ref W.o, .int h] ∧ WAt CW CH i τ H W S ∧ (∀ (k : Nat) (A : HAd) (s : HandS), h = k → W.hd[k]? = some A → S.hs[k]? = some s → Q (.ref A.h) H) ∧ (¬ inP h S.hs.length → E (.ref CN) none H)
theorem ok_handOf {C_Works C_Hand : Addr} {f : Addr} {fd : FuncData} (F : Fun K "hand_of" "Works.hand_of" s_Works_hand_of f fd) (F_is_below : FnAt P w K mg base 2 "is_below" ["value", "count"] (spBelow K)) (Z_Works : Cl_Works K C_Works) (Bt : Blt mg) {C_NoHand : Addr} (X_NoHand : Xr K mg C_NoHand "NoHand") : FnOk P w K mg base (CX1 P w) 3 f fd ["self", "hand"] (spHandOf C_Works C_Hand C_NoHand K) := by
  refine F.okX sc_Works_hand_of (fun vs H Q E h => ?_) (fun cdv A outer s H vs Q E hr h hR => ?_)
  · obtain ⟨i, τ, W, S, h, rfl, _⟩ := h
    rfl
  · obtain ⟨i, τ, W, S, h, rfl, w, k1, k2⟩ := h
    refine ⟨_, (pss_cons (ps_if (pt_not (pt_val (pe_fn F_is_below (hr.mono (by decide)) (by rfl) (pa_cons (pv 1) (pa_cons (pe_callB (call_len_seqK (K := K) rfl) (by rfl) Bt.b_len bt_len (pa_cons (pe_fldK (K := K) rfl (pv 0) rfl) pa_nil)) pa_nil))))) (pss_one (ps_raise PySem.F.excBase_ValueError X_NoHand.ex X_NoHand.bd (by rfl) rfl rfl hR (pa_cons pe_str pa_nil))) pss_nil)
      (pss_one (ps_ret (pe_ix (ix_listK (K := K) rfl) (pe_fldK (K := K) rfl (pv 0) rfl) (pv 1) (fun _ _ => rfl))))), ?_⟩
    refine ⟨_, rfl, _, rfl, W.o, C_Works, W.dx, _, _, rfl, w.o, Z_Works.cls, Z_Works.n_hands, rfl, W.hl, _, rfl, .inl (SqL.of w.hl), h, _, rfl, _, rfl, ?_⟩
    have ll : (W.hd.map fun a => V.ref a.h).length = S.hs.length := by rw [List.length_map, w.len]
    by_cases hh : inP h (W.hd.map fun a => V.ref a.h).length
    · rw [decide_eq_true hh]
      refine iteF ?_
      obtain ⟨n, rfl⟩ := Int.eq_ofNat_of_zero_le hh.1
      have nl : n < S.hs.length := by have := hh.2; rw [ll] at this; omega
      have es : S.hs[n]? = some S.hs[n] := by simp [nl]
      obtain ⟨A, eA, _⟩ := w.hand es
      exact ⟨_, rfl, W.o, C_Works, W.dx, _, _, rfl, w.o, Z_Works.cls, Z_Works.n_hands, rfl, _, rfl, _, _, _, _, rfl, rfl, SqL.of w.hl, atI_nat (by rw [List.getElem?_map, eA]; rfl), k1 n A _ rfl eA es⟩
    · rw [decide_eq_false hh]
      refine iteT ?_
      rw [ll] at hh
      exact ⟨(by show 1 ≤ sizeLine; decide), k2 hh⟩

/-- how many touches each hand has done -/
def cntS (S : WkS) : List Int := (List.range S.hs.length).map fun k : Nat => ((S.ts.count (k : Int) : Nat) : Int)
def spCounts (CW CH : Addr) (K : PySem.W.Frag) : Sp := fun vs H Q _ => ∃ (i : Nat) (τ : Tg) (W : WAd) (S : WkS), vs = [.ref W.o] ∧ WAt CW CH i τ H W S ∧ ∀ l H', H l = none → H' l = some (.lst ((cntS S).map V.int)) → Same H H' → Q (.ref l) H'
theorem ok_counts {C_Works C_Hand : Addr} {f : Addr} {fd : FuncData} (F : Fun K "counts" "Works.counts" s_Works_counts f fd) (Z_Works : Cl_Works K C_Works) (Bt : Blt mg) : FnOk P w K mg base CX0 1 f fd ["self"] (spCounts C_Works C_Hand K) := by
  refine F.ok sc_Works_counts (fun vs H Q E h => ?_) (fun cdv A outer s H vs Q E hr h => ?_)
  · obtain ⟨i, τ, W, S, rfl, _⟩ := h
    rfl
  · obtain ⟨i, τ, W, S, rfl, w, k⟩ := h
    refine ⟨_, (pss_one (ps_ret (pe_comp rfl (N := ["hand", "self"]) (own := ["hand"]) (caps := [0]) (CompScope.of (by kernel_rfl)) (pi_range1 (by rfl) Bt.b_range (pa_cons (pe_callB (call_len_seqK (K := K) rfl) (by rfl) Bt.b_len bt_len (pa_cons (pe_fldK (K := K) rfl (pv 0) rfl) pa_nil)) pa_nil)) (fun _ _ _ _ => (pg_name (i := 0) (show List.Nodup (["hand", "self"] : List Str) by decide +kernel) rfl (Or.inl rfl))) (fun _ _ _ _ => pts_nil) (fun _ _ _ _ => (pe_bmK (K := K) rfl PySem.F.plainAttrs_list PySem.F.slot_list_count PySem.F.type_list_count (mt_countK (K := K) rfl) (pe_fldK (K := K) rfl (pv 1) rfl) (pa_cons (pv 0) pa_nil)))))), ?_⟩
    have ll : (W.hd.map fun a => V.ref a.h).length = S.hs.length := by rw [List.length_map, w.len]
    refine ⟨_, rfl, W.o, C_Works, W.dx, _, _, rfl, w.o, Z_Works.cls, Z_Works.n_hands, rfl, W.hl, _, rfl, .inl (SqL.of w.hl), _, rfl, (by rw [ll]; have := w.hn; omega), (by rw [ll]; have := w.hn; omega), fun D hD => ?_⟩
    rw [ll, Int.toNat_natCast]
    refine comp_valR (fun j : Nat => some (.int ((S.ts.count (j : Int) : Nat) : Int))) hD (by have := w.hn; omega) (fun j H1 G F hj s1 kG kF => ?_) (fun H1 s1 e1 => ?_)
    · refine ⟨_, rfl, W.o, C_Works, W.dx, _, _, rfl, s1 _ _ w.o, Z_Works.cls, Z_Works.n_turns, rfl, .inl ⟨rfl, _, SqL.of (s1 _ _ w.tn)⟩, _, rfl, _, S.ts, _, rfl, rfl, SqL.of (s1 _ _ w.tn), kF _ H1 (Same.refl _) (by rw [Int.zero_add])⟩
    · refine k D H1 hD ?_ s1
      rw [e1]
      unfold cntS
      rw [List.map_map, List.filterMap_eq_map']
      rfl

def spHow (CW CH CN : Addr) (K : PySem.W.Frag) : Sp := fun vs H Q E => ∃ (i : Nat) (τ : Tg) (W : WAd) (S : WkS) (h : Int), vs = [.ref W.o, .int h] ∧ WAt CW CH i τ H W S ∧ (∀ (k : Nat) (s : HandS), h = k → S.hs[k]? = some s → Q (.str s.st) H) ∧ (¬ inP h S.hs.length → E (.ref CN) none H)
theorem ok_how {C_Works C_Hand C_NoHand : Addr} {f : Addr} {fd : FuncData} (F : Fun K "how" "Works.how" s_Works_how f fd) (M_Works_hand_of : MethAtX P w K mg base 3 C_Works "hand_of" ["self", "hand"] (spHandOf C_Works C_Hand C_NoHand K)) (Z_Works : Cl_Works K C_Works) (Z_Hand : Cl_Hand K C_Hand) : FnOk P w K mg base (CX1 P w) 4 f fd ["self", "hand"] (spHow C_Works C_Hand C_NoHand K) := by
  refine F.okX sc_Works_how (fun vs H Q E h => ?_) (fun cdv A outer s H vs Q E hr h hR => ?_)
  · obtain ⟨i, τ, W, S, h, rfl, _⟩ := h
    rfl
  · obtain ⟨i, τ, W, S, h, rfl, w, k1, k2⟩ := h
    refine ⟨_, (pss_one (ps_ret (pe_fldK (K := K) rfl (pe_methX M_Works_hand_of Z_Works.cls rfl hR (hr.mono (by decide)) (pv 0) (pa_cons (pv 1) pa_nil)) rfl))), ?_⟩
    refine ⟨_, rfl, W.o, W.dx, _, rfl, w.o, rfl, _, rfl, i, τ, W, S, h, rfl, w, fun k A s e eA es => ?_, k2⟩
    have a := w.hd k A s eA es
    exact ⟨A.h, C_Hand, A.hx, _, _, rfl, a.c.h, Z_Hand.cls, Z_Hand.n_state, rfl, k1 k s e es⟩

/-! what is tagged otherwise stays -/
structure MvT (C : List (List Nat)) (τ : Tg) (H : Hp) (τ' : Tg) (H' : Hp) : Prop where
  keep : ∀ x u, H x = some u → τ x ∉ C → H' x = some u ∧ τ' x = τ x
  tup : ∀ x xs, H x = some (.tup xs) → H' x = some (.tup xs)
theorem MvT.of_same {C : List (List Nat)} {τ : Tg} {H H' : Hp} (k : Same H H') : MvT C τ H τ H' := ⟨fun x u e _ => ⟨k _ _ e, rfl⟩, k.tups⟩
theorem MvT.claim {C : List (List Nat)} {τ : Tg} {H H' : Hp} {p : Addr} {t : List Nat} (k : Same H H') (hp : H p = none) : MvT C τ H (tgSet τ p t) H' := ⟨fun x u e _ => ⟨k _ _ e, tgSet_ne (ne_of_none e hp)⟩, k.tups⟩
theorem MvT.set {C : List (List Nat)} {τ : Tg} {H : Hp} {x : Addr} {o u : HO} (ht : τ x ∈ C) (hx : H x = some o) (hn : ∀ xs, o ≠ .tup xs) : MvT C τ H τ (upd H x u) :=
  ⟨fun y v e n => ⟨by rw [upd_ne (fun z : y = x => n (by rw [z]; exact ht))]; exact e, rfl⟩, fun y xs e => by rw [upd_ne (ne_of e hx fun z => hn xs z.symm)]; exact e⟩
theorem MvT.trans {C : List (List Nat)} {τ τ1 τ2 : Tg} {H H1 H2 : Hp} (a : MvT C τ H τ1 H1) (b : MvT C τ1 H1 τ2 H2) : MvT C τ H τ2 H2 := ⟨fun x u e n => by
  obtain ⟨e1, t1⟩ := a.keep x u e n
  obtain ⟨e2, t2⟩ := b.keep x u e1 (by rw [t1]; exact n)
  exact ⟨e2, by rw [t2, t1]⟩, fun x xs e => b.tup _ _ (a.tup _ _ e)⟩
theorem HdAt.mvT {C : List (List Nat)} {CH : Addr} {i k m : Nat} {τ τ' : Tg} {H H' : Hp} {A : HAd} {s : HandS} (h : HdAt CH i k m τ H A s) (q : MvT C τ H τ' H') (h0 : [0] ∉ C) (h4 : [i, 4, k] ∉ C) (h5 : [i, 5, k] ∉ C) (h6 : [i, 6, k] ∉ C) : HdAt CH i k m τ' H' A s := by
  obtain ⟨⟨c1, c2, c3, c4, c5⟩, r, tr, th, tb, ty⟩ := h
  have e1 := q.keep _ _ c1 (by rw [th]; exact h4)
  have e2 := q.keep _ _ c2 (by rw [tb]; exact h5)
  have e3 := q.keep _ _ c3 (by rw [ty]; exact h6)
  have rr := r
  obtain ⟨ts, hr, _⟩ := rr
  have e4 := q.keep _ _ hr (by rw [tr]; exact h0)
  exact ⟨⟨e1.1, e2.1, e3.1, c4, c5⟩, r.keep (fun o e => (q.keep _ _ e (by rw [tr]; exact h0)).1) q.tup, e4.2.trans tr, e1.2.trans th, e2.2.trans tb, e3.2.trans ty⟩
theorem rows_mvT {C : List (List Nat)} {τ τ' : Tg} {H H' : Hp} {r : Addr} {m : Nat} {rws : List Rw} (h : τ r = [0] ∧ RowsH H r m rws) (q : MvT C τ H τ' H') (h0 : [0] ∉ C) : τ' r = [0] ∧ RowsH H' r m rws := by
  obtain ⟨t, R⟩ := h
  have rr := R
  obtain ⟨ts, hr, _⟩ := rr
  have e4 := q.keep _ _ hr (by rw [t]; exact h0)
  exact ⟨e4.2.trans t, R.keep (fun o e => (q.keep _ _ e (by rw [t]; exact h0)).1) q.tup⟩
/-! a turn -/
def spTurn (CW CH CN CO : Addr) (K : PySem.W.Frag) : Sp := fun vs H Q E => ∃ (i : Nat) (τ : Tg) (W : WAd) (S : WkS) (h : Int), vs = [.ref W.o, .int h] ∧ WAt CW CH i τ H W S ∧ S.ts.length ≤ 10000 ∧
  (∀ (k : Nat) (s : HandS) (r : Rw) (t : Addr) (H' : Hp), h = k → S.hs[k]? = some s → s.st = "waits" → s.rws[s.pos]? = some r → touch r = true → H t = none → H' t = some (.tup (touchV S.ns s.bs r)) → WAt CW CH i τ H' W (turnS S k) → Stp i τ H H' → Q (.ref t) H') ∧
  (¬ inP h S.hs.length → E (.ref CN) none H) ∧ (∀ (k : Nat) (s : HandS), h = k → S.hs[k]? = some s → s.st ≠ "waits" → E (.ref CO) none H)
theorem turnS_eq {S : WkS} {k : Nat} {s : HandS} {r : Rw} (es : S.hs[k]? = some s) (er : s.rws[s.pos]? = some r) : turnS S k = { S with ns := cellsR S.ns s.bs r, hs := S.hs.set k (goneS S.ns s r), ts := S.ts ++ [(k : Int)] } := by
  unfold turnS
  simp only [es, er]
theorem cellsR_len (ns bs : List Int) (r : Rw) : (cellsR ns bs r).length = ns.length := by cases r <;> simp [cellsR]
theorem WAt.turned {CW CH : Addr} {i : Nat} {τ : Tg} {H H' : Hp} {W : WAd} {S : WkS} {k : Nat} {A : HAd} {s : HandS} {r : Rw} (w : WAt CW CH i τ H W S) (eA : W.hd[k]? = some A) (es : S.hs[k]? = some s) (er : s.rws[s.pos]? = some r)
    (kp : ∀ x u, H x = some u → x ≠ W.nb → x ≠ A.b → x ≠ A.h → x ≠ A.sy → x ≠ W.tn → H' x = some u) (c : HdC CH H' A (goneS S.ns s r)) (hnb : H' W.nb = some (.lst ((cellsR S.ns s.bs r).map V.int))) (htn : H' W.tn = some (.lst ((S.ts ++ [(k : Int)]).map V.int))) : WAt CW CH i τ H' W (turnS S k) ∧ Stp i τ H H' := by
  have a := w.hd k A s eA es
  have tup : ∀ x xs, H x = some (.tup xs) → H' x = some (.tup xs) := fun x xs e => kp _ _ e (ne_of e w.nb (by intro z; cases z)) (ne_of e a.c.b (by intro z; cases z)) (ne_of e a.c.h (by intro z; cases z)) (ne_of e a.c.y (by intro z; cases z)) (ne_of e w.tn (by intro z; cases z))
  have st : Stp i τ H H' := by
    refine ⟨fun x u e n => ?_, tup, fun x e => ?_⟩
    · have ne : ∀ (y : Addr) (t : List Nat), τ y = i :: t → x ≠ y := fun y t ty z => n (by rw [z, ty]; rfl)
      exact kp _ _ e (ne _ _ w.tb) (ne _ _ a.tb) (ne _ _ a.th) (ne _ _ a.ty) (ne _ _ w.tt)
    · cases q : H x with
      | none => rfl
      | some u =>
        have no : ∀ y o, H' y = some o → x ≠ y := fun y o h z => by rw [z, h] at e; cases e
        rw [kp _ _ q (no _ _ hnb) (no _ _ c.b) (no _ _ c.h) (no _ _ c.y) (no _ _ htn)] at e
        cases e
  refine ⟨?_, st⟩
  have q : MvT [[i, 1], [i, 5, k], [i, 4, k], [i, 6, k], [i, 3]] τ H τ H' := by
    refine ⟨fun x u e n => ⟨?_, rfl⟩, tup⟩
    have ne : ∀ (y : Addr) (t : List Nat), τ y = t → t ∈ [[i, 1], [i, 5, k], [i, 4, k], [i, 6, k], [i, 3]] → x ≠ y := fun y t ty ht z => n (by rw [z, ty]; exact ht)
    exact kp _ _ e (ne _ _ w.tb (by simp)) (ne _ _ a.tb (by simp)) (ne _ _ a.th (by simp)) (ne _ _ a.ty (by simp)) (ne _ _ w.tt (by simp))
  have i0 := w.i0
  have z0 : [0] ∉ [[i, 1], [i, 5, k], [i, 4, k], [i, 6, k], [i, 3]] := by simp
  rw [turnS_eq es er]
  have hk : k < S.hs.length := (List.getElem?_eq_some_iff.mp es).1
  have get : ∀ (j : Nat) (s' : HandS), (S.hs.set k (goneS S.ns s r))[j]? = some s' → (j = k ∧ s' = goneS S.ns s r) ∨ (j ≠ k ∧ S.hs[j]? = some s') := fun j s' e => by
    rw [List.getElem?_set] at e
    by_cases z : k = j
    · subst z
      simp [hk] at e
      exact .inl ⟨rfl, e.symm⟩
    · rw [if_neg z] at e
      exact .inr ⟨fun y => z y.symm, e⟩
  have gr : (goneS S.ns s r).rws = s.rws := led_rws _ _
  have mem : ∀ s' ∈ S.hs.set k (goneS S.ns s r), s' = goneS S.ns s r ∨ s' ∈ S.hs := fun s' m => (List.mem_or_eq_of_mem_set m).symm
  refine ⟨st.un w.un, i0, (q.keep _ _ w.o (by rw [w.to]; simp)).1, tup _ _ w.pg, (q.keep _ _ w.L (by rw [w.tL]; exact z0)).1, hnb, (q.keep _ _ w.hl (by rw [w.tl]; simp)).1, htn, w.to, w.tb, w.tl, w.tt, w.tL, ?_, ?_, ?_, ?_, ?_, ?_, ?_, ?_⟩
  · simp [w.rl]
  · intro j r' s' h1 h2
    rcases get j s' h2 with ⟨rfl, rfl⟩ | ⟨_, h2⟩
    · rw [gr]
      exact rows_mvT (w.rs j r' s h1 es) q z0
    · exact rows_mvT (w.rs j r' s' h1 h2) q z0
  · simp [w.len]
  · intro j A' s' h1 h2
    rcases get j s' h2 with ⟨rfl, rfl⟩ | ⟨nj, h2⟩
    · rw [eA] at h1
      cases h1
      refine ⟨c, ?_, a.tr, a.th, a.tb, a.ty⟩
      rw [gr]
      exact (rows_mvT ⟨a.tr, a.r⟩ q z0).2
    · exact (w.hd j A' s' h1 h2).mvT q z0 (by simp [nj]) (by simp [nj]) (by simp [nj])
  · intro s' m
    rcases mem s' m with rfl | m
    · exact led_ok _ _
    · exact w.ok s' m
  · intro s' m
    simp only [List.length_append, List.length_singleton]
    rcases mem s' m with rfl | m
    · have := led_sy 60 { s with pos := s.pos + 1, bs := boxesR S.ns s.bs r }
      have := w.sl s (List.mem_of_getElem? es)
      show (led 60 _).sy.length ≤ _
      simp only at *
      omega
    · have := w.sl s' m
      omega
  · show (cellsR S.ns s.bs r).length = S.m
    rw [cellsR_len, w.nl]
  · simp [w.hn]
theorem ok_turn {C_Works C_Hand C_NoHand C_Over : Addr} {f : Addr} {fd : FuncData} (F : Fun K "turn" "Works.turn" s_Works_turn f fd) (M_Works_hand_of : MethAtX P w K mg base 3 C_Works "hand_of" ["self", "hand"] (spHandOf C_Works C_Hand C_NoHand K)) (M_Works_touch_by : MethAt P w K mg base 4 C_Works "touch_by" ["self", "one"] (spTouchBy C_Works C_Hand K)) (M_Hand_lead_on : MethAt P w K mg base 6 C_Hand "lead_on" ["self"] (spLead C_Hand K)) (Z_Works : Cl_Works K C_Works) (Z_Hand : Cl_Hand K C_Hand) (X_Over : Xr K mg C_Over "Over") : FnOk P w K mg base (CX1 P w) 7 f fd ["self", "hand"] (spTurn C_Works C_Hand C_NoHand C_Over K) := by
  refine F.okX sc_Works_turn (fun vs H Q E h => ?_) (fun cdv A outer s H vs Q E hr h hR => ?_)
  · obtain ⟨i, τ, W, S, h, rfl, _⟩ := h
    rfl
  · obtain ⟨i, τ, W, S, h, rfl, w, tl, k1, k2, k3⟩ := h
    refine ⟨_, (pss_cons (ps_set (i := 2) sc_Works_turn.nd rfl (Or.inl rfl) (pe_methX M_Works_hand_of Z_Works.cls rfl hR (hr.mono (by decide)) (pv 0) (pa_cons (pv 1) pa_nil)))
      (pss_cons (ps_if (pt_cmpR op_ne (pe_fldK (K := K) rfl (pv 2) rfl) pe_str (nomark _)) (pss_one (ps_raise PySem.F.excBase_ValueError X_Over.ex X_Over.bd (by rfl) rfl rfl hR (pa_cons pe_str pa_nil))) pss_nil)
      (pss_cons (ps_set (i := 3) sc_Works_turn.nd rfl (Or.inl rfl) (pe_methA M_Works_touch_by Z_Works.cls (hr.mono (by decide)) (pv 0) (pa_cons (pv 2) pa_nil)))
      (pss_cons (ps_fldaugK (K := K) rfl (pv 2) pe_int ip_add)
      (pss_cons (ps_expr (pe_methA0 M_Hand_lead_on Z_Hand.cls (hr.mono (by decide)) (pv 2)))
      (pss_cons (ps_expr (pe_appendK (K := K) rfl (pe_fldK (K := K) rfl (pv 0) rfl) (pa_cons (pv 1) pa_nil)))
      (pss_one (ps_ret (pv 3))))))))), ?_⟩
    refine ⟨_, rfl, W.o, W.dx, _, rfl, w.o, rfl, _, rfl, i, τ, W, S, h, rfl, w, fun k A s e eA es => ?_, k2⟩
    have a := w.hd k A s eA es
    refine ⟨_, rfl, A.h, C_Hand, A.hx, _, _, rfl, a.c.h, Z_Hand.cls, Z_Hand.n_state, rfl, rfl, _, rfl, ?_⟩
    by_cases wt : s.st = "waits"
    rotate_left
    · refine ite2 (fun _ => ?_) (fun z => absurd (by simp [wt]) z)
      exact ⟨(by show 1 ≤ sizeLine; decide), k3 k s e es wt⟩
    refine iteNS (by rw [wt]) ?_
    obtain ⟨r, er, tr⟩ := w.ok s (List.mem_of_getElem? es) wt
    have nnb : W.nb ≠ A.b := ne_tag w.tb a.tb (by simp)
    have nny : W.nb ≠ A.sy := ne_tag w.tb a.ty (by simp)
    refine ⟨_, rfl, W.o, W.dx, _, rfl, w.o, rfl, _, rfl, W.o, W.dx, W.pg, W.nb, W.hl, W.tn, A, s, S.m, S.ns, r, rfl, w.o, w.nb, w.nl, a.c, a.r, er, tr, nnb, nny, fun t H1 tf t1 c1 nb1 p1 => ?_⟩
    refine ⟨_, rfl, A.h, C_Hand, A.hx, _, _, rfl, c1.h, Z_Hand.cls, Z_Hand.n_at, rfl, _, _, rfl, rfl, A.hx, _, c1.h, (by show 5 < 1000; decide), ?_⟩
    rw [put_at]
    have c2 := c1.seth (s.pos + 1) s.st
    have p2 : KH A H1 (upd H1 A.h (.ins C_Hand A.hx (hF A.r ((s.pos + 1 : Nat) : Int) A.b A.sy s.st))) := KH.seth
    have t2 := c1.tup p2 _ _ t1
    dsimp only
    rw [show ((s.pos : Nat) : Int) + 1 = ((s.pos + 1 : Nat) : Int) by omega]
    generalize (upd H1 A.h (.ins C_Hand A.hx (hF A.r ((s.pos + 1 : Nat) : Int) A.b A.sy s.st))) = H2 at c2 p2 t2 ⊢
    have nrb : A.r ≠ A.b := ne_tag a.tr a.tb (by intro z; cases z)
    have nry : A.r ≠ A.sy := ne_tag a.tr a.ty (by intro z; cases z)
    have nrh : A.r ≠ A.h := ne_tag a.tr a.th (by intro z; cases z)
    have nrn : A.r ≠ W.nb := ne_tag a.tr w.tb (by intro z; cases z)
    have tup2 : ∀ x xs, H x = some (.tup xs) → H2 x = some (.tup xs) := fun x xs q => c1.tup p2 _ _ (p1 _ _ q (ne_of q w.nb (by intro z; cases z)) (ne_of q a.c.b (by intro z; cases z)))
    have R2 : RowsH H2 A.r S.m s.rws := a.r.keep (fun o q => p2 _ _ (p1 _ _ q nrn nrb) nrh nrb nry) tup2
    have sl := w.sl s (List.mem_of_getElem? es)
    refine ⟨_, rfl, A.h, A.hx, _, rfl, c2.h, rfl, A, _, S.m, rfl, c2, R2, nrb, nry, by show s.sy.length < _; omega, fun H3 c3 p3 => ?_⟩
    have k13 : ∀ x u, H x = some u → x ≠ W.nb → x ≠ A.b → x ≠ A.h → x ≠ A.sy → H3 x = some u := fun x u q n1 n2 n3 n4 => p3 _ _ (p2 _ _ (p1 _ _ q n1 n2) n3 n2 n4) n3 n2 n4
    have o3 := k13 _ _ w.o (ne_tag w.to w.tb (by simp)) (ne_tag w.to a.tb (by simp)) (ne_tag w.to a.th (by simp)) (ne_tag w.to a.ty (by simp))
    have tn3 := k13 _ _ w.tn (ne_tag w.tt w.tb (by simp)) (ne_tag w.tt a.tb (by simp)) (ne_tag w.tt a.th (by simp)) (ne_tag w.tt a.ty (by simp))
    have nb3 := p3 _ _ (p2 _ _ nb1 (ne_tag w.tb a.th (by simp)) nnb nny) (ne_tag w.tb a.th (by simp)) nnb nny
    have t3 := c2.tup p3 _ _ t2
    refine ⟨_, rfl, W.o, C_Works, W.dx, _, _, rfl, o3, Z_Works.cls, Z_Works.n_turns, rfl, .inl ⟨rfl, _, SqL.of tn3⟩, _, rfl, _, _, _, rfl, rfl, tn3, (by rw [List.length_map, sizeLine_eq]; omega), ?_⟩
    have k14 : ∀ x u, H x = some u → x ≠ W.nb → x ≠ A.b → x ≠ A.h → x ≠ A.sy → x ≠ W.tn → (upd H3 W.tn (.lst (S.ts.map V.int ++ [V.int h]))) x = some u := fun x u q n1 n2 n3 n4 n5 => by rw [upd_ne n5]; exact k13 x u q n1 n2 n3 n4
    have nbt : W.nb ≠ W.tn := ne_tag w.tb w.tt (by simp)
    have c4 : HdC C_Hand (upd H3 W.tn (.lst (S.ts.map V.int ++ [V.int h]))) A (goneS S.ns s r) := ⟨by rw [upd_ne (ne_tag a.th w.tt (by simp))]; exact c3.h, by rw [upd_ne (ne_tag a.tb w.tt (by simp))]; exact c3.b, by rw [upd_ne (ne_tag a.ty w.tt (by simp))]; exact c3.y, c3.nby, c3.bl⟩
    obtain ⟨w4, st⟩ := w.turned (H' := upd H3 W.tn (.lst (S.ts.map V.int ++ [V.int h]))) eA es er k14 c4 (by rw [upd_ne nbt]; exact nb3) (by rw [upd_same, List.map_append, e]; rfl)
    refine ⟨_, rfl, k1 k s r t _ e es wt er tr tf ?_ w4 st⟩
    rw [upd_ne (ne_of t3 tn3 (by intro z; cases z))]
    exact t3

/-! a works made -/
/-- while a works is made: what was there stays -/
structure Bs (H0 : Hp) (τ0 : Tg) (o : Addr) (τ : Tg) (H : Hp) : Prop where
  un : Unt τ H
  kp : Kp o H0 H
  tg : ∀ x u, H0 x = some u → x ≠ o → τ x = τ0 x
theorem Bs.same {H0 H H' : Hp} {τ0 τ : Tg} {o : Addr} (b : Bs H0 τ0 o τ H) (k : Same H H') : Bs H0 τ0 o τ H' := ⟨b.un.same k, b.kp.trans (Kp.of_same k), b.tg⟩
theorem Bs.claim {H0 H H' : Hp} {τ0 τ : Tg} {o p : Addr} {t : List Nat} (b : Bs H0 τ0 o τ H) (k : Same H H') (hp : H p = none) (hp' : ∃ u, H' p = some u) : Bs H0 τ0 o (tgSet τ p t) H' :=
  ⟨b.un.claim k hp', b.kp.trans (Kp.of_same k), fun x u e n => by rw [tgSet_ne (ne_of_none (b.kp _ _ e n) hp)]; exact b.tg x u e n⟩
theorem Bs.set {H0 H : Hp} {τ0 τ : Tg} {o x : Addr} {v : HO} (b : Bs H0 τ0 o τ H) (hx : x = o ∨ H0 x = none) : Bs H0 τ0 o τ (upd H x v) :=
  ⟨b.un.dom (fun y e => by
    by_cases z : y = x
    · rw [z, upd_same] at e; cases e
    · rw [upd_ne z] at e; exact e), fun y u e n => by
    have z : y ≠ x := by
      rcases hx with rfl | hx
      · exact n
      · exact ne_of_none e hx
    rw [upd_ne z]; exact b.kp _ _ e n, b.tg⟩
theorem Bs.fresh {H0 H : Hp} {τ0 τ : Tg} {o p : Addr} (b : Bs H0 τ0 o τ H) (hp : H p = none) (n : p ≠ o) : H0 p = none := kp_none b.kp n hp
def spWInit (CW CH CN : Addr) (K : PySem.W.Frag) : Sp := fun vs H Q E => ∃ (i : Nat) (τ : Tg) (o dx p L0 : Addr) (rs0 : List Addr) (m : Nat) (cv : V) (ns : List Int) (rws : List (List Rw)), vs = [.ref o, .ref p, cv] ∧ H o = some (.ins CW dx []) ∧ H p = some (.tup [.int m, .ref L0]) ∧ H L0 = some (.lst (rs0.map V.ref)) ∧ rs0.length = rws.length ∧
  (∀ (k : Nat) (r : Addr) (x : List Rw), rs0[k]? = some r → rws[k]? = some x → RowsH H r m x) ∧ rws.length ≤ 100 ∧ m ≤ 100 ∧ Unt τ H ∧ i ≠ 0 ∧ ns.length ≤ 100 ∧ ((cv = .non ∧ ns = List.replicate m 0) ∨ ∃ cl, cv = .ref cl ∧ H cl = some (.lst (ns.map V.int))) ∧
  (numOkL m ns → ∀ (τ' : Tg) (W : WAd) (H' : Hp), W.o = o → WAt CW CH i τ' H' W (begS m ns rws) → (∀ x u, H x = some u → x ≠ o → τ' x = τ x) → Kp o H H' → Q .non H') ∧ (¬ numOkL m ns → ∀ H', Kp o H H' → E (.ref CN) none H')
theorem get_snoc {α : Type} {l : List α} {x y : α} {k : Nat} (h : (l ++ [x])[k]? = some y) : l[k]? = some y ∨ (k = l.length ∧ y = x) := by
  by_cases e : k < l.length
  · rw [List.getElem?_append_left e] at h
    exact .inl h
  · rw [List.getElem?_append_right (by omega)] at h
    have lt := (List.getElem?_eq_some_iff.mp h).1
    simp at lt
    have : k = l.length := by omega
    subst this
    simp at h
    exact .inr ⟨rfl, h.symm⟩
theorem ok_winit {C_Works C_Hand : Addr} {f : Addr} {fd : FuncData} (F : FunD K "__init__" "Works.__init__" s_Works_init [.none] f fd) (Z_Works : Cl_Works K C_Works) (Z_Hand : Cl_Hand K C_Hand) {C_NoNumber : Addr} (F_check_numbers : FnAtX P w K mg base 3 "check_numbers" ["cells", "count"] (spCheckNum C_NoNumber K)) (N_Hand : MakeAt P w K mg base 1 C_Hand "Hand" ["self", "rows"] [] (spHInit C_Hand K)) (M_Hand_lead_on : MethAt P w K mg base 6 C_Hand "lead_on" ["self"] (spLead C_Hand K)) (Bt : Blt mg) : FnOk P w K mg base (CX1 P w) 7 f fd ["self", "program", "cells"] (spWInit C_Works C_Hand C_NoNumber K) := by
  refine F.okX sc_Works_init (fun vs H Q E h => ?_) (fun cdv A outer s H vs Q E hr h hR => ?_)
  · obtain ⟨i, τ, o, dx, p, L0, rs0, m, cv, ns, rws, rfl, _⟩ := h
    rfl
  · obtain ⟨i, τ, o, dx, p, L0, rs0, m, cv, ns, rws, rfl, ho, hp, hL, lr, hrows, rl, ml, un, i0, nl, hcv, k1, k2⟩ := h
    refine ⟨_, (pss_cons (ps_if (pt_cmpR op_isN (pv 2) pe_non (nomark _)) (pss_one (ps_setC (i := 2) rfl sc_Works_init.nd rfl (Or.inl rfl) (N := ["cell"]) (own := ["cell"]) (caps := []) (CompScope.of (by kernel_rfl)) (pi_range1 (by rfl) Bt.b_range (pa_cons (pe_ix (ix_tupK (K := K) rfl) (pv 1) pe_int (fun _ _ => rfl)) pa_nil)) (fun _ _ _ _ => (pg_name (i := 0) (show List.Nodup (["cell"] : List Str) by decide +kernel) rfl (Or.inl rfl))) (fun _ _ _ _ => pts_nil) (fun _ _ _ _ => pe_int))) pss_nil)
      (pss_cons (ps_expr (pe_fnX F_check_numbers rfl hR (hr.mono (by decide)) (by rfl) (pa_cons (pv 2) (pa_cons (pe_ix (ix_tupK (K := K) rfl) (pv 1) pe_int (fun _ _ => rfl)) pa_nil))))
      (pss_cons (ps_fldK (K := K) rfl (pv 0) (pe_tup (pa_cons (pe_ix (ix_tupK (K := K) rfl) (pv 1) pe_int (fun _ _ => rfl)) (pa_cons (pe_comp rfl (N := ["rows"]) (own := ["rows"]) (caps := []) (CompScope.of (by kernel_rfl)) (pi_listK (K := K) rfl (pe_ix (ix_tupK (K := K) rfl) (pv 1) pe_int (fun _ _ => rfl))) (fun _ _ _ _ => (pg_name (i := 0) (show List.Nodup (["rows"] : List Str) by decide +kernel) rfl (Or.inl rfl))) (fun _ _ _ _ => pts_nil) (fun _ _ _ _ => (pe_callTy (call_list_ofK (K := K) rfl) (by rfl) Bt.b_list bt_list (pa_cons (pv 0) pa_nil)))) pa_nil))) rfl)
      (pss_cons (ps_fldK (K := K) rfl (pv 0) (pe_callTy (call_list_ofK (K := K) rfl) (by rfl) Bt.b_list bt_list (pa_cons (pv 2) pa_nil)) rfl)
      (pss_cons (ps_fldK (K := K) rfl (pv 0) (pe_comp rfl (N := ["rows"]) (own := ["rows"]) (caps := []) (CompScope.of (by kernel_rfl)) (pi_listK (K := K) rfl (pe_ix (ix_tupK (K := K) rfl) (pe_fldK (K := K) rfl (pv 0) rfl) pe_int (fun _ _ => rfl))) (fun _ _ _ _ => (pg_name (i := 0) (show List.Nodup (["rows"] : List Str) by decide +kernel) rfl (Or.inl rfl))) (fun _ _ _ _ => pts_nil) (fun _ _ _ _ => (pe_makeA N_Hand (hr.mono (by decide)) (by rfl) (pa_cons (pv 0) pa_nil)))) rfl)
      (pss_cons (ps_fldK (K := K) rfl (pv 0) (pe_lst pa_nil) rfl)
      (pss_one (ps_for PassesOwn.leaving rfl (pi_listK (K := K) rfl (pe_fldK (K := K) rfl (pv 0) rfl)) (pg_name (i := 3) sc_Works_init.nd rfl (Or.inl rfl))
      (pss_one (ps_expr (pe_methA0 M_Hand_lead_on Z_Hand.cls (hr.mono (by decide)) (pv 3)))))))))))), ?_⟩
    refine seq_cps (fun σ H1 => ∃ cl : Addr, σ = [some (.ref o), some (.ref p), some (.ref cl), none] ∧ H1 cl = some (.lst (ns.map V.int)) ∧ Same H H1) (fun D' hD' rt' => ?_) ?_
    · refine ⟨_, rfl, rfl, _, rfl, ?_⟩
      rcases hcv with ⟨rfl, rfl⟩ | ⟨cl, rfl, hcl⟩
      · refine iteT ?_
        refine ⟨_, rfl, _, _, _, _, rfl, rfl, SqT.of hp, rfl, _, rfl, by omega, by omega, fun D hD => ?_⟩
        rw [Int.toNat_natCast]
        refine comp_valR (fun _ => some (.int 0)) hD (by omega) (fun i H1 G F hi s1 kG kF => kF _ H1 (Same.refl _) rfl) (fun H1 s1 e1 => ?_)
        rw [fm_zero] at e1
        exact hD' _ _ ⟨D, rfl, e1, s1⟩
      · refine iteF ?_
        exact hD' _ _ ⟨cl, rfl, hcl, Same.refl _⟩
    rintro σ H1 ⟨cl, rfl, hcl, s1⟩
    have hp1 := s1 _ _ hp
    refine seq_one (fun R g => ?_)
    refine ⟨_, rfl, _, rfl, _, _, _, _, rfl, rfl, SqT.of hp1, rfl, cl, m, ns, rfl, hcl, nl, fun good H2 s2 => ?_, fun bad H2 s2 => k2 bad H2 (Kp.of_same (s1.trans s2))⟩
    refine g _ _ ?_
    have s02 := s1.trans s2
    have ho2 := s02 _ _ ho
    have hp2 := s02 _ _ hp
    have hL2 := s02 _ _ hL
    have hcl2 := s2 _ _ hcl
    have hrows2 : ∀ (k : Nat) (r : Addr) (x : List Rw), rs0[k]? = some r → rws[k]? = some x → RowsH H2 r m x := fun k r x a b => (hrows k r x a b).same s02
    -- the works is tagged ahead
    have B2 : Bs H τ o (tgSet τ o [i, 0]) H2 := ⟨fun x e => by rw [tgSet_ne (ne_of_none ho2 e).symm]; exact un.same s02 x e, Kp.of_same s02, fun x u e n => tgSet_ne n⟩
    have to2 : tgSet τ o [i, 0] o = [i, 0] := tgSet_same
    generalize tgSet τ o [i, 0] = τ2 at B2 to2
    -- self.program
    refine seq_one (fun R g => ?_)
    refine ⟨_, rfl, _, _, _, _, rfl, rfl, SqT.of hp2, rfl, _, rfl, _, _, _, _, rfl, rfl, SqT.of hp2, rfl, L0, rfl, ⟨_, SqL.of hL2⟩, fun L hLn => ?_⟩
    have sL := same_new (o := HO.lst []) hLn
    have nLo : L ≠ o := (ne_of_none ho2 hLn).symm
    refine comp_list (K := K) (xs := rs0.map V.ref) (fun j σ Hc => ∃ (v : Option V) (τc : Tg) (rs : List Addr), σ = [v] ∧ rs.length = j ∧ Same H2 Hc ∧ Hc L = some (.lst (rs.map V.ref)) ∧ Bs H τ o τc Hc ∧ τc o = [i, 0] ∧ τc L = [0] ∧ ∀ (k : Nat) (r : Addr) (x : List Rw), rs[k]? = some r → rws[k]? = some x → r ≠ L ∧ τc r = [0] ∧ RowsH Hc r m x) ?_ ?_ ?_ ?_
    · exact ⟨none, tgSet τ2 L [0], [], rfl, rfl, sL, upd_same, B2.claim sL hLn ⟨_, upd_same⟩, by rw [tgSet_ne nLo.symm]; exact to2, tgSet_same, fun k r x h => by simp at h⟩
    · rintro j σ Hc hj ⟨v, τc, rs, rfl, _, sc, _⟩
      exact SqL.of (sc _ _ hL2)
    · rintro j x σ Hc hj ⟨v, τc, rs, rfl, lj, sc, hLc, Bc, toc, tLc, hc⟩
      rw [List.getElem?_map] at hj
      obtain ⟨r0, er0, rfl⟩ : ∃ r0, rs0[j]? = some r0 ∧ x = .ref r0 := by
        cases e : rs0[j]? with
        | none => rw [e] at hj; cases hj
        | some r0 => rw [e] at hj; exact ⟨r0, rfl, (Option.some.inj hj).symm⟩
      have jl : j < rws.length := by rw [← lr]; exact (List.getElem?_eq_some_iff.mp er0).1
      have ex : rws[j]? = some rws[j] := by simp [jl]
      have rr := hrows2 j r0 _ er0 ex
      obtain ⟨ts, hts, dts, rq, rl'⟩ := rr
      dsimp only [gName, tAll]
      rw [if_pos rfl]
      refine ⟨_, rfl, r0, _, rfl, .inl (SqL.of (sc _ _ hts)), fun r hrn => ?_⟩
      have sr := same_new (o := HO.lst ts) hrn
      have nrL : r ≠ L := (ne_of_none hLc hrn).symm
      have nro : r ≠ o := (ne_of_none (sc _ _ ho2) hrn).symm
      have hLf : H L = none := s02.free hLn
      refine ⟨rs.map V.ref, sr _ _ hLc, (by rw [List.length_map, sizeLine_eq]; omega), some (.ref r0), tgSet τc r [0], rs ++ [r], rfl, by simp [lj], fun y u e => ?_, by rw [upd_same]; simp, (Bc.claim sr hrn ⟨_, upd_same⟩).set (.inr hLf), ?_, ?_, ?_⟩
      · rw [upd_ne (ne_of_none e hLn)]
        exact sr _ _ (sc _ _ e)
      · rw [tgSet_ne nro.symm]; exact toc
      · rw [tgSet_ne nrL.symm]; exact tLc
      · intro k r' x' h1 h2
        have tups : ∀ y ys, Hc y = some (.tup ys) → (upd (upd Hc r (.lst ts)) L (.lst (rs.map V.ref ++ [V.ref r]))) y = some (.tup ys) := fun y ys e => by
          rw [upd_ne (ne_of e hLc (by intro z; cases z))]
          exact sr _ _ e
        rcases get_snoc h1 with h1 | ⟨e1, rfl⟩
        · obtain ⟨n1, t1, R1⟩ := hc k r' x' h1 h2
          have rr := R1
          obtain ⟨ts', hr', _⟩ := rr
          have n2 : r' ≠ r := ne_of_none hr' hrn
          refine ⟨n1, by rw [tgSet_ne n2]; exact t1, R1.keep (fun u e => ?_) tups⟩
          rw [upd_ne n1]
          exact sr _ _ e
        · rw [e1, lj, ex] at h2
          cases h2
          refine ⟨nrL, tgSet_same, ts, by rw [upd_ne nrL, upd_same], ?_, rq, rl'⟩
          exact dts.keep (fun y ys e => tups _ _ (sc _ _ e)) _ (imms_rws _)
    rintro σ H3 ⟨v, τ3, rs, rfl, lrs, s23, hL3, B3, to3, tL3, hr3⟩
    rw [List.length_map] at lrs
    have ho3 := s23 _ _ ho2
    refine ⟨(by show 2 ≤ sizeLine; decide), fun pg hpg => ?_⟩
    have spg := same_new (o := HO.tup [V.int m, V.ref L]) hpg
    refine ⟨_, rfl, o, C_Works, dx, _, rfl, spg _ _ ho3, Z_Works.cls, Z_Works.n_program, (by show 0 < 1000; decide), ?_⟩
    refine g _ _ ?_
    have npgo : pg ≠ o := (ne_of_none ho3 hpg).symm
    have ho4 : (upd (upd H3 pg (.tup [V.int m, V.ref L])) o (.ins C_Works dx (putF "program" (.ref pg) []))) o = some (.ins C_Works dx [("program", .ref pg)]) := upd_same
    have hpg4 : (upd (upd H3 pg (.tup [V.int m, V.ref L])) o (.ins C_Works dx (putF "program" (.ref pg) []))) pg = some (.tup [V.int m, V.ref L]) := by rw [upd_ne npgo, upd_same]
    have q4 : MvT [[i, 0]] τ3 H3 τ3 (upd (upd H3 pg (.tup [V.int m, V.ref L])) o (.ins C_Works dx (putF "program" (.ref pg) []))) := (MvT.of_same spg).trans (MvT.set (by rw [to3]; simp) (spg _ _ ho3) (by intro xs z; cases z))
    have B4 : Bs H τ o τ3 (upd (upd H3 pg (.tup [V.int m, V.ref L])) o (.ins C_Works dx (putF "program" (.ref pg) []))) := (B3.same spg).set (.inl rfl)
    have kp4 : Kp o H3 (upd (upd H3 pg (.tup [V.int m, V.ref L])) o (.ins C_Works dx (putF "program" (.ref pg) []))) := (Kp.of_same spg).trans Kp.set
    generalize (upd (upd H3 pg (.tup [V.int m, V.ref L])) o (.ins C_Works dx (putF "program" (.ref pg) []))) = H4 at ho4 hpg4 q4 B4 kp4 ⊢
    have hL4 := (q4.keep _ _ hL3 (by rw [tL3]; simp)).1
    have hr4 : ∀ (k : Nat) (r : Addr) (x : List Rw), rs[k]? = some r → rws[k]? = some x → τ3 r = [0] ∧ RowsH H4 r m x := fun k r x h1 h2 => rows_mvT ⟨(hr3 k r x h1 h2).2.1, (hr3 k r x h1 h2).2.2⟩ q4 (by simp)
    have nclo : cl ≠ o := ne_of hcl2 ho2 (by intro z; cases z)
    have hcl4 := kp4 _ _ (s23 _ _ hcl2) nclo
    -- self.numbers
    refine seq_one (fun R g => ?_)
    refine ⟨_, rfl, cl, _, rfl, .inl (SqL.of hcl4), fun nb hnb => ?_⟩
    have snb := same_new (o := HO.lst (ns.map V.int)) hnb
    refine ⟨_, rfl, o, C_Works, dx, _, rfl, snb _ _ ho4, Z_Works.cls, Z_Works.n_numbers, (by show 1 < 1000; decide), ?_⟩
    refine g _ _ ?_
    have nnbo : nb ≠ o := (ne_of_none ho4 hnb).symm
    have ho5 : (upd (upd H4 nb (.lst (ns.map V.int))) o (.ins C_Works dx (putF "numbers" (.ref nb) [("program", .ref pg)]))) o = some (.ins C_Works dx [("program", .ref pg), ("numbers", .ref nb)]) := upd_same
    have hnb5 : (upd (upd H4 nb (.lst (ns.map V.int))) o (.ins C_Works dx (putF "numbers" (.ref nb) [("program", .ref pg)]))) nb = some (.lst (ns.map V.int)) := by rw [upd_ne nnbo, upd_same]
    have q5 : MvT [[i, 0]] τ3 H4 (tgSet τ3 nb [i, 1]) (upd (upd H4 nb (.lst (ns.map V.int))) o (.ins C_Works dx (putF "numbers" (.ref nb) [("program", .ref pg)]))) := (MvT.claim snb hnb).trans (MvT.set (by rw [tgSet_ne nnbo.symm, to3]; simp) (snb _ _ ho4) (by intro xs z; cases z))
    have B5 : Bs H τ o (tgSet τ3 nb [i, 1]) (upd (upd H4 nb (.lst (ns.map V.int))) o (.ins C_Works dx (putF "numbers" (.ref nb) [("program", .ref pg)]))) := (B4.claim snb hnb ⟨_, upd_same⟩).set (.inl rfl)
    have to5 : tgSet τ3 nb [i, 1] o = [i, 0] := by rw [tgSet_ne nnbo.symm]; exact to3
    have tn5 : tgSet τ3 nb [i, 1] nb = [i, 1] := tgSet_same
    generalize (upd (upd H4 nb (.lst (ns.map V.int))) o (.ins C_Works dx (putF "numbers" (.ref nb) [("program", .ref pg)]))) = H5 at ho5 hnb5 q5 B5 ⊢
    generalize tgSet τ3 nb [i, 1] = τ5 at q5 B5 to5 tn5
    have hL5 := q5.keep _ _ hL4 (by rw [tL3]; simp)
    have hr5 : ∀ (k : Nat) (r : Addr) (x : List Rw), rs[k]? = some r → rws[k]? = some x → τ5 r = [0] ∧ RowsH H5 r m x := fun k r x h1 h2 => rows_mvT (hr4 k r x h1 h2) q5 (by simp)
    have hpg5 := q5.tup _ _ hpg4
    have tL5 : τ5 L = [0] := hL5.2.trans tL3
    have hL5 := hL5.1
    -- self.hands
    refine seq_one (fun R g => ?_)
    refine ⟨_, rfl, o, C_Works, dx, _, _, rfl, ho5, Z_Works.cls, Z_Works.n_program, rfl, _, _, _, _, rfl, rfl, SqT.of hpg5, rfl, L, rfl, ⟨_, SqL.of hL5⟩, fun hl hhl => ?_⟩
    have shl := same_new (o := HO.lst []) hhl
    have nhlo : hl ≠ o := (ne_of_none ho5 hhl).symm
    refine comp_list (K := K) (xs := rs.map V.ref) (fun j σ Hc => ∃ (v : Option V) (τc : Tg) (hd : List HAd), σ = [v] ∧ hd.length = j ∧ Same H5 Hc ∧ Hc hl = some (.lst (hd.map fun a => .ref a.h)) ∧ Bs H τ o τc Hc ∧ (∀ x u, H5 x = some u → τc x = τ5 x) ∧ τc hl = [i, 2] ∧ ∀ (k : Nat) (A : HAd) (x : List Rw), hd[k]? = some A → rws[k]? = some x → HdAt C_Hand i k m τc Hc A (new x) ∧ H A.h = none ∧ H A.b = none ∧ H A.sy = none) ?_ ?_ ?_ ?_
    · exact ⟨none, tgSet τ5 hl [i, 2], [], rfl, rfl, shl, upd_same, B5.claim shl hhl ⟨_, upd_same⟩, fun x u e => tgSet_ne (ne_of_none e hhl), tgSet_same, fun k A x h => by simp at h⟩
    · rintro j σ Hc hj ⟨v, τc, hd, rfl, _, sc, _⟩
      exact SqL.of (sc _ _ hL5)
    · rintro j x σ Hc hj ⟨v, τc, hd, rfl, lj, sc, hlc, Bc, tgc, tlc, hc⟩
      rw [List.getElem?_map] at hj
      obtain ⟨r, er, rfl⟩ : ∃ r, rs[j]? = some r ∧ x = .ref r := by
        cases e : rs[j]? with
        | none => rw [e] at hj; cases hj
        | some r0 => rw [e] at hj; exact ⟨r0, rfl, (Option.some.inj hj).symm⟩
      have jl : j < rws.length := by rw [← lr, ← lrs]; exact (List.getElem?_eq_some_iff.mp er).1
      have ex : rws[j]? = some rws[j] := by simp [jl]
      obtain ⟨tr, R⟩ := hr5 j r _ er ex
      have rr := R
      obtain ⟨ts, hts, _⟩ := rr
      dsimp only [gName, tAll]
      rw [if_pos rfl]
      refine ⟨_, rfl, fun h hx hn hxn nhx => ?_⟩
      have hn' : (upd Hc hx (.own h)) h = none := by rw [upd_ne nhx.symm]; exact hn
      have sm : Same Hc (upd (upd Hc hx (.own h)) h (.ins C_Hand hx [])) := (same_new hxn).trans (same_new hn')
      refine ⟨h, r, hx, rfl, upd_same, fun b sy H7 hb hsy nbsy h7 b7 sy7 k7 => ⟨rfl, ?_⟩⟩
      have S7 : Same Hc H7 := fun y u e => k7 _ _ (sm _ _ e) (ne_of_none e hn)
      have fb : Hc b = none := sm.free hb
      have fy : Hc sy = none := sm.free hsy
      have nhl : hl ≠ h := ne_of_none hlc hn
      have nbl : hl ≠ b := ne_of_none hlc fb
      have nyl : hl ≠ sy := ne_of_none hlc fy
      have nhb : h ≠ b := ne_of_none upd_same hb
      have nhy : h ≠ sy := ne_of_none upd_same hsy
      have hlf : H hl = none := B5.fresh hhl nhlo
      have sH : Same Hc Hc := Same.refl _
      have T : ∀ x u, Hc x = some u → tgSet (tgSet (tgSet τc h [i, 4, j]) b [i, 5, j]) sy [i, 6, j] x = τc x := fun y u e => by rw [tgSet_ne (ne_of_none e fy), tgSet_ne (ne_of_none e fb), tgSet_ne (ne_of_none e hn)]
      have B7 : Bs H τ o (tgSet (tgSet (tgSet τc h [i, 4, j]) b [i, 5, j]) sy [i, 6, j]) H7 := by
        refine ⟨fun y e => ?_, Bc.kp.trans (Kp.of_same S7), fun y u e n => ?_⟩
        · have n1 : y ≠ h := fun z => by rw [z, h7] at e; cases e
          have n2 : y ≠ b := fun z => by rw [z, b7] at e; cases e
          have n3 : y ≠ sy := fun z => by rw [z, sy7] at e; cases e
          rw [tgSet_ne n3, tgSet_ne n2, tgSet_ne n1]
          exact Bc.un y (S7.free e)
        · rw [T y u (Bc.kp _ _ e n)]
          exact Bc.tg y u e n
      have q7 : MvT [[i, 2]] τc Hc (tgSet (tgSet (tgSet τc h [i, 4, j]) b [i, 5, j]) sy [i, 6, j]) (upd H7 hl (.lst ((hd.map fun a => V.ref a.h) ++ [V.ref h]))) := by
        refine ⟨fun y u e n => ⟨?_, T y u e⟩, fun y ys e => ?_⟩
        · rw [upd_ne (fun z : y = hl => n (by rw [z, tlc]; simp))]
          exact S7 _ _ e
        · rw [upd_ne (ne_of e hlc (by intro z; cases z))]
          exact S7 _ _ e
      have Th : tgSet (tgSet (tgSet τc h [i, 4, j]) b [i, 5, j]) sy [i, 6, j] h = [i, 4, j] := by rw [tgSet_ne nhy, tgSet_ne nhb, tgSet_same]
      have Tb : tgSet (tgSet (tgSet τc h [i, 4, j]) b [i, 5, j]) sy [i, 6, j] b = [i, 5, j] := by rw [tgSet_ne nbsy, tgSet_same]
      have Ty : tgSet (tgSet (tgSet τc h [i, 4, j]) b [i, 5, j]) sy [i, 6, j] sy = [i, 6, j] := tgSet_same
      generalize tgSet (tgSet (tgSet τc h [i, 4, j]) b [i, 5, j]) sy [i, 6, j] = τ7 at T B7 q7 Th Tb Ty
      refine ⟨_, S7 _ _ hlc, (by rw [List.length_map, sizeLine_eq]; omega), some (.ref r), τ7, hd ++ [⟨h, hx, r, b, sy⟩], rfl, by simp [lj], fun y u e => ?_, by rw [upd_same]; simp, B7.set (.inr hlf), fun y u e => ?_, ?_, ?_⟩
      · rw [upd_ne (ne_of_none e hhl)]
        exact S7 _ _ (sc _ _ e)
      · rw [T y u (sc _ _ e)]
        exact tgc y u e
      · rw [T _ _ hlc]; exact tlc
      · intro k A x' h1 h2
        rcases get_snoc h1 with h1 | ⟨e1, rfl⟩
        · exact ⟨(hc k A x' h1 h2).1.mvT q7 (by simp) (by simp) (by simp) (by simp), (hc k A x' h1 h2).2⟩
        · rw [e1, lj, ex] at h2
          cases h2
          rw [e1, lj]
          have tr' : τc r = [0] := by rw [tgc _ _ hts]; exact tr
          obtain ⟨t9, R9⟩ := rows_mvT ⟨tr', R.same sc⟩ q7 (by simp)
          have hoc := sc _ _ ho5
          exact ⟨⟨⟨by rw [upd_ne nhl.symm]; exact h7, by rw [upd_ne nbl.symm]; exact b7, by rw [upd_ne nyl.symm]; exact sy7, nbsy, rfl⟩, R9, t9, Th, Tb, Ty⟩, Bc.fresh hn (ne_of_none hoc hn).symm, Bc.fresh fb (ne_of_none hoc fb).symm, Bc.fresh fy (ne_of_none hoc fy).symm⟩
    rintro σ H8 ⟨v, τ8, hd, rfl, lhd, s58, hhl8, B8, tg8, tl8, hd8⟩
    rw [List.length_map] at lhd
    have ho8 := s58 _ _ ho5
    have to8 : τ8 o = [i, 0] := by rw [tg8 _ _ ho5]; exact to5
    refine ⟨_, rfl, o, C_Works, dx, _, rfl, ho8, Z_Works.cls, Z_Works.n_hands, (by show 2 < 1000; decide), ?_⟩
    refine g _ _ ?_
    have ho9 : (upd H8 o (.ins C_Works dx (putF "hands" (.ref hl) [("program", .ref pg), ("numbers", .ref nb)]))) o = some (.ins C_Works dx [("program", .ref pg), ("numbers", .ref nb), ("hands", .ref hl)]) := upd_same
    have q9 : MvT [[i, 0]] τ8 H8 τ8 (upd H8 o (.ins C_Works dx (putF "hands" (.ref hl) [("program", .ref pg), ("numbers", .ref nb)]))) := MvT.set (by rw [to8]; simp) ho8 (by intro xs z; cases z)
    have B9 : Bs H τ o τ8 (upd H8 o (.ins C_Works dx (putF "hands" (.ref hl) [("program", .ref pg), ("numbers", .ref nb)]))) := B8.set (.inl rfl)
    generalize (upd H8 o (.ins C_Works dx (putF "hands" (.ref hl) [("program", .ref pg), ("numbers", .ref nb)]))) = H9 at ho9 q9 B9 ⊢
    -- self.turns
    refine seq_one (fun R g => ?_)
    refine ⟨(by show 0 ≤ sizeLine; decide), fun tn htn => ?_⟩
    have stn := same_new (o := HO.lst []) htn
    refine ⟨_, rfl, o, C_Works, dx, _, rfl, stn _ _ ho9, Z_Works.cls, Z_Works.n_turns, (by show 3 < 1000; decide), ?_⟩
    refine g _ _ ?_
    have ntno : tn ≠ o := (ne_of_none ho9 htn).symm
    have ho10 : (upd (upd H9 tn (.lst [])) o (.ins C_Works dx (putF "turns" (.ref tn) [("program", .ref pg), ("numbers", .ref nb), ("hands", .ref hl)]))) o = some (.ins C_Works dx (wF pg nb hl tn)) := upd_same
    have htn10 : (upd (upd H9 tn (.lst [])) o (.ins C_Works dx (putF "turns" (.ref tn) [("program", .ref pg), ("numbers", .ref nb), ("hands", .ref hl)]))) tn = some (.lst []) := by rw [upd_ne ntno, upd_same]
    have q10 : MvT [[i, 0]] τ8 H9 (tgSet τ8 tn [i, 3]) (upd (upd H9 tn (.lst [])) o (.ins C_Works dx (putF "turns" (.ref tn) [("program", .ref pg), ("numbers", .ref nb), ("hands", .ref hl)]))) := (MvT.claim stn htn).trans (MvT.set (by rw [tgSet_ne ntno.symm, to8]; simp) (stn _ _ ho9) (by intro xs z; cases z))
    have B10 : Bs H τ o (tgSet τ8 tn [i, 3]) (upd (upd H9 tn (.lst [])) o (.ins C_Works dx (putF "turns" (.ref tn) [("program", .ref pg), ("numbers", .ref nb), ("hands", .ref hl)]))) := (B9.claim stn htn ⟨_, upd_same⟩).set (.inl rfl)
    have to10 : tgSet τ8 tn [i, 3] o = [i, 0] := by rw [tgSet_ne ntno.symm]; exact to8
    have tt10 : tgSet τ8 tn [i, 3] tn = [i, 3] := tgSet_same
    have q810 := q9.trans q10
    generalize (upd (upd H9 tn (.lst [])) o (.ins C_Works dx (putF "turns" (.ref tn) [("program", .ref pg), ("numbers", .ref nb), ("hands", .ref hl)]))) = H10 at ho10 htn10 q10 B10 q810 ⊢
    generalize tgSet τ8 tn [i, 3] = τ10 at q10 B10 to10 tt10 q810
    have hhl10 := q810.keep _ _ hhl8 (by rw [tl8]; simp)
    have tl10 : τ10 hl = [i, 2] := hhl10.2.trans tl8
    have hhl10 := hhl10.1
    have n5 : ∀ x u, H5 x = some u → τ5 x ≠ [i, 0] → H10 x = some u ∧ τ10 x = τ5 x := fun x u e n => by
      have := q810.keep _ _ (s58 _ _ e) (by rw [tg8 _ _ e]; simp [n])
      exact ⟨this.1, by rw [this.2, tg8 _ _ e]⟩
    have hL10 := n5 _ _ hL5 (by rw [tL5]; simp)
    have hnb10 := n5 _ _ hnb5 (by rw [tn5]; simp)
    have hpg10 := q810.tup _ _ (s58 _ _ hpg5)
    have hd10 : ∀ (k : Nat) (A : HAd) (x : List Rw), hd[k]? = some A → rws[k]? = some x → HdAt C_Hand i k m τ10 H10 A (new x) := fun k A x h1 h2 => (hd8 k A x h1 h2).1.mvT q810 (by simp) (by simp) (by simp) (by simp)
    have hr10 : ∀ (k : Nat) (r : Addr) (x : List Rw), rs[k]? = some r → rws[k]? = some x → τ10 r = [0] ∧ RowsH H10 r m x := fun k r x h1 h2 => by
      obtain ⟨t5, R5⟩ := hr5 k r x h1 h2
      have rr := R5
      obtain ⟨ts, hts, _⟩ := rr
      exact rows_mvT ⟨by rw [tg8 _ _ hts]; exact t5, R5.same s58⟩ q810 (by simp)
    have lh : hd.length = rws.length := by rw [lhd, lrs, lr]
    -- led on
    refine ⟨_, rfl, o, C_Works, dx, _, _, rfl, ho10, Z_Works.cls, Z_Works.n_hands, rfl, hl, rfl, ⟨_, SqL.of hhl10⟩, ?_⟩
    refine for_list (K := K) (a := hl) (xs := hd.map fun a => V.ref a.h) (fun j σ Hc => ∃ x1 : Option V, σ = [some (.ref o), some (.ref p), some (.ref cl), x1] ∧ (∀ x u, H10 x = some u → (∀ k, τ10 x ≠ [i, 4, k]) → (∀ k, τ10 x ≠ [i, 5, k]) → (∀ k, τ10 x ≠ [i, 6, k]) → Hc x = some u) ∧ (∀ x ys, H10 x = some (.tup ys) → Hc x = some (.tup ys)) ∧ Bs H τ o τ10 Hc ∧
      ∀ (k : Nat) (A : HAd) (x : List Rw), hd[k]? = some A → rws[k]? = some x → HdAt C_Hand i k m τ10 Hc A (if k < j then lead (new x) else new x))
      ⟨none, rfl, fun x u e _ _ _ => e, fun x ys e => e, B10, fun k A x h1 h2 => by rw [if_neg (by omega)]; exact hd10 k A x h1 h2⟩ (fun j σ Hc _ ⟨_, _, kc, _⟩ => SqL.of (kc _ _ hhl10 (by rw [tl10]; simp) (by rw [tl10]; simp) (by rw [tl10]; simp))) ?_ ?_
    · rintro j v σ Hc hj ⟨x1, rfl, kc, tc, Bc, hc⟩
      rw [List.getElem?_map] at hj
      obtain ⟨A, eA, rfl⟩ : ∃ A, hd[j]? = some A ∧ v = .ref A.h := by
        cases e : hd[j]? with
        | none => rw [e] at hj; cases hj
        | some A => rw [e] at hj; exact ⟨A, rfl, (Option.some.inj hj).symm⟩
      have jl : j < rws.length := by rw [← lh]; exact (List.getElem?_eq_some_iff.mp eA).1
      have ex : rws[j]? = some rws[j] := by simp [jl]
      have a := hc j A _ eA ex
      rw [if_neg (by omega)] at a
      refine ⟨_, rfl, A.h, A.hx, _, rfl, a.c.h, rfl, A, _, m, rfl, a.c, a.r, ne_tag a.tr a.tb (by intro z; cases z), ne_tag a.tr a.ty (by intro z; cases z), (by show 0 < 900000; decide), fun H12 c12 k12 => ?_⟩
      have q12 : MvT [[i, 4, j], [i, 5, j], [i, 6, j]] τ10 Hc τ10 H12 := ⟨fun x u e n => ⟨k12 _ _ e (fun z => n (by rw [z, a.th]; simp)) (fun z => n (by rw [z, a.tb]; simp)) (fun z => n (by rw [z, a.ty]; simp)), rfl⟩, a.c.tup k12⟩
      refine ⟨_, rfl, fun x u e n4 n5 n6 => (q12.keep _ _ (kc x u e n4 n5 n6) (by simp [n4, n5, n6])).1, fun x ys e => q12.tup _ _ (tc _ _ e), ?_, ?_⟩
      · obtain ⟨f1, f2, f3⟩ := (hd8 j A _ eA ex).2
        refine ⟨Bc.un.dom fun x e => ?_, fun x u e n => k12 _ _ (Bc.kp _ _ e n) (ne_of_none e f1) (ne_of_none e f2) (ne_of_none e f3), Bc.tg⟩
        cases q : Hc x with
        | none => rfl
        | some u =>
          have no : ∀ y o, H12 y = some o → x ≠ y := fun y o h z => by rw [z, h] at e; cases e
          rw [k12 _ _ q (no _ _ c12.h) (no _ _ c12.b) (no _ _ c12.y)] at e
          cases e
      · intro k A' x h1 h2
        by_cases z : k = j
        · subst z
          rw [eA] at h1
          cases h1
          rw [ex] at h2
          cases h2
          rw [if_pos (by omega)]
          have lr' : (lead (new rws[k])).rws = rws[k] := led_rws _ _
          refine ⟨c12, ?_, a.tr, a.th, a.tb, a.ty⟩
          rw [lr']
          exact (rows_mvT ⟨a.tr, a.r⟩ q12 (by simp)).2
        · have b := (hc k A' x h1 h2).mvT q12 (by simp) (by simp [z]) (by simp [z]) (by simp [z])
          by_cases lt : k < j
          · rw [if_pos lt] at b
            rw [if_pos (by omega)]
            exact b
          · rw [if_neg lt] at b
            rw [if_neg (by omega)]
            exact b
    · rintro σ H11 ⟨x1, rfl, kc, tc, Bc, hc⟩
      rw [List.length_map] at hc
      have kt : ∀ x u t, H10 x = some u → τ10 x = t → (∀ k, t ≠ [i, 4, k]) → (∀ k, t ≠ [i, 5, k]) → (∀ k, t ≠ [i, 6, k]) → H11 x = some u := fun x u t e et n4 n5 n6 => kc x u e (by rw [et]; exact n4) (by rw [et]; exact n5) (by rw [et]; exact n6)
      have tL10 : τ10 L = [0] := hL10.2.trans tL5
      have tn10 : τ10 nb = [i, 1] := hnb10.2.trans tn5
      have get : ∀ (k : Nat) (s : HandS), (rws.map fun r => lead (new r))[k]? = some s → ∃ x, rws[k]? = some x ∧ s = lead (new x) := fun k s e => by
        rw [List.getElem?_map] at e
        cases q : rws[k]? with
        | none => rw [q] at e; cases e
        | some x => rw [q] at e; exact ⟨x, rfl, (Option.some.inj e).symm⟩
      refine k1 good τ10 ⟨o, dx, pg, L, nb, hl, tn, rs, hd⟩ H11 rfl ⟨Bc.un, i0, kt _ _ _ ho10 to10 (by simp) (by simp) (by simp), tc _ _ hpg10, kt _ _ _ hL10.1 tL10 (by simp) (by simp) (by simp), kt _ _ _ hnb10.1 tn10 (by simp) (by simp) (by simp), kt _ _ _ hhl10 tl10 (by simp) (by simp) (by simp), kt _ _ _ htn10 tt10 (by simp) (by simp) (by simp), to10, tn10, tl10, tt10, tL10, ?_, ?_, ?_, ?_, ?_, ?_, ?_, ?_⟩ Bc.tg Bc.kp
      · show rs.length = (rws.map _).length
        rw [List.length_map, lrs, lr]
      · intro k r s h1 h2
        obtain ⟨x, ex, rfl⟩ := get k s h2
        obtain ⟨t1, R1⟩ := hr10 k r x h1 ex
        have lr' : (lead (new x)).rws = x := led_rws _ _
        rw [lr']
        exact ⟨t1, R1.keep (fun u e => kt _ _ _ e t1 (by simp) (by simp) (by simp)) tc⟩
      · show hd.length = (rws.map _).length
        rw [List.length_map, lh]
      · intro k A s h1 h2
        obtain ⟨x, ex, rfl⟩ := get k s h2
        have := hc k A x h1 ex
        rw [if_pos (List.getElem?_eq_some_iff.mp h1).1] at this
        exact this
      · intro s ms
        obtain ⟨x, _, rfl⟩ := List.mem_map.mp ms
        exact led_ok _ _
      · intro s ms
        obtain ⟨x, _, rfl⟩ := List.mem_map.mp ms
        exact led_sy 60 (new x)
      · have := good.1
        show ns.length = m
        omega
      · show (rws.map _).length ≤ 100
        rw [List.length_map]
        exact rl

theorem dat_oV {H : Hp} (x : Option Int) : Dat H (oV x) (oD x) := by cases x <;> simp only [oV, oD, Dat]
/-! ### the spring beside what is tagged -/
structure ST (τ : Tg) (H : Hp) (r : Addr) : Prop where
  S : SpringOk H r
  t : τ r = []
  un : Unt τ H
theorem ST.draw {τ : Tg} {H H' : Hp} {r : Addr} (h : ST τ H r) (k : Kp r H H') (S' : SpringOk H' r) : ST τ H' r := ⟨S', h.t, h.un.dom fun x e => Kp.new k e S'.at⟩
theorem ST.stp {τ : Tg} {H H' : Hp} {r : Addr} {i : Nat} (h : ST τ H r) (k : Stp i τ H H') : ST τ H' r := by
  obtain ⟨f, t, c, e, q⟩ := h.S
  exact ⟨⟨f, t, c, k.keep _ _ e (by rw [h.t]; simp), q⟩, h.t, h.un.dom k.dom⟩
theorem ST.same {τ : Tg} {H H' : Hp} {r : Addr} (h : ST τ H r) (k : Same H H') : ST τ H' r := h.stp (i := 0) (Stp.of_same k)
/-- a draw changes nothing that is tagged -/
theorem ST.kr {τ : Tg} {H H' : Hp} {r : Addr} {i : Nat} (h : ST τ H r) (k : Kp r H H') : Mv i τ H τ H' := by
  obtain ⟨f, t, c, e, q⟩ := h.S
  exact Mv.of_kp k e (by intro xs z; cases z) h.t
theorem ST.ne {τ : Tg} {H : Hp} {r x : Addr} (h : ST τ H r) (t : τ x ≠ []) : x ≠ r := fun z => t (by rw [z]; exact h.t)
theorem ST.keep {τ : Tg} {H H' : Hp} {r x : Addr} {o : HO} (h : ST τ H r) (k : Kp r H H') (e : H x = some o) (t : τ x ≠ []) : H' x = some o := k _ _ e (h.ne t)
theorem ST.claim {τ : Tg} {H H' : Hp} {r p : Addr} {t : List Nat} (h : ST τ H r) (k : Same H H') (hp : H p = none) (hp' : ∃ o, H' p = some o) : ST (tgSet τ p t) H' r := ⟨h.S.keep k, by rw [tgSet_ne (h.S.ne hp).symm]; exact h.t, h.un.claim k hp'⟩
/-- behind a works made -/
theorem ST.made {τ τ' : Tg} {H H' : Hp} {r : Addr} (h : ST τ H r) (k : Same H H') (tg : ∀ x u, H x = some u → τ' x = τ x) (un : Unt τ' H') : ST τ' H' r := by
  obtain ⟨o, e⟩ := h.S.at
  exact ⟨h.S.keep k, by rw [tg _ _ e]; exact h.t, un⟩
theorem ST.set {τ : Tg} {H : Hp} {r x : Addr} {o u : HO} (h : ST τ H r) (e : H x = some o) (t : τ x ≠ []) : ST τ (upd H x u) r := by
  refine ⟨h.S.keep' Kp.set (h.ne t).symm, h.t, fun y ey => ?_⟩
  by_cases z : y = x
  · rw [z, upd_same] at ey; cases ey
  · rw [upd_ne z] at ey; exact h.un y ey

/-! ### drawn parts of rows -/
theorem box_cp : ∀ b : Fin 8, atI (Str.ofString "abcdefgh").cps.toList ((b.val : Nat) : Int) = some (97 + b.val) := by decide +kernel
theorem box_cp' {i : Int} (h0 : 0 ≤ i) (h1 : i < 8) : atI (Str.ofString "abcdefgh").cps.toList i = some (97 + i.toNat) := by
  have := box_cp ⟨i.toNat, by omega⟩
  simp only [Int.toNat_of_nonneg h0] at this
  exact this
theorem abc_len : (Str.ofString "abcdefgh").length ≤ sizeLine := by rw [sizeLine_eq]; decide
theorem dat_x1 {H : Hp} {p : Addr} {x : Ex1} (h : H p = some (.tup (match x with | .num n => [.str "number", .int n] | .box b => [.str "box", .str (bxS b)]))) : Dat H (.ref p) (x1D x) := by
  cases x <;> simp only [x1D, Dat] <;> refine ⟨p, _, rfl, h, ?_⟩ <;> simp only [Dats, Dat, and_true]
theorem dat_two {H : Hp} {p : Addr} {a b : V} {q : Bool} {x y : Ex1} (h : H p = some (.tup [.str (if q then "plus" else "minus"), a, b])) (da : Dat H a (x1D x)) (db : Dat H b (x1D y)) : Dat H (.ref p) (exD (.two q x y)) := by
  simp only [exD, Dat]
  refine ⟨p, _, rfl, h, ?_⟩
  simp only [Dats, Dat, and_true]
  exact ⟨trivial, da, db⟩

/-! ### rows as data -/
section
variable {H : Hp} {p : Addr} {x y : V} {b c n : Nat} {e f : Exx}
theorem dat_load (h : H p = some (.tup [.str "load", .str (bxS b), .int c])) : Dat H (.ref p) (rwD (.load b c)) := by
  simp only [rwD, Dat]; exact ⟨p, _, rfl, h, by simp only [Dats, Dat, and_true]⟩
theorem dat_store (h : H p = some (.tup [.str "store", .int c, x])) (d : Dat H x (exD e)) : Dat H (.ref p) (rwD (.store c e)) := by
  simp only [rwD, Dat]; exact ⟨p, _, rfl, h, by simp only [Dats, Dat, and_true, true_and]; exact d⟩
theorem dat_swap (h : H p = some (.tup [.str "swap", .str (bxS b), .int c, x])) (d : Dat H x (exD e)) : Dat H (.ref p) (rwD (.swap b c e)) := by
  simp only [rwD, Dat]; exact ⟨p, _, rfl, h, by simp only [Dats, Dat, and_true, true_and]; exact d⟩
theorem dat_let (h : H p = some (.tup [.str "let", .str (bxS b), x])) (d : Dat H x (exD e)) : Dat H (.ref p) (rwD (.lett b e)) := by
  simp only [rwD, Dat]; exact ⟨p, _, rfl, h, by simp only [Dats, Dat, and_true, true_and]; exact d⟩
theorem dat_say (h : H p = some (.tup [.str "say", x])) (d : Dat H x (exD e)) : Dat H (.ref p) (rwD (.say e)) := by
  simp only [rwD, Dat]; exact ⟨p, _, rfl, h, by simp only [Dats, Dat, and_true, true_and]; exact d⟩
theorem dat_go (h : H p = some (.tup [.str "go", .int n])) : Dat H (.ref p) (rwD (.go n)) := by
  simp only [rwD, Dat]; exact ⟨p, _, rfl, h, by simp only [Dats, Dat, and_true]⟩
theorem dat_unl {q : Bool} (h : H p = some (.tup [.str "unless", .str (if q then "=" else "<"), x, y, .int n])) (d : Dat H x (exD e)) (d' : Dat H y (exD f)) : Dat H (.ref p) (rwD (.unl q e f n)) := by
  simp only [rwD, Dat]; exact ⟨p, _, rfl, h, by simp only [Dats, Dat, and_true, true_and]; exact ⟨d, d'⟩⟩
end

/-! ### rows and programs drawn from the spring -/
def spValue (K : PySem.W.Frag) : Sp := fun vs H Q _ => ∃ (r : Addr) (b : Int), vs = [.ref r, .int b] ∧ SpringOk H r ∧ 0 < b ∧ b ≤ 8 ∧ ∀ (v : V) (x : Ex1) (H' : Hp), Dat H' v (x1D x) → x1Ok x → SpringOk H' r → Kp r H H' → Q v H'
theorem ok_value {f : Addr} {fd : FuncData} (F : Fun K "_law_value" "_law_value" s_Lvalue f fd) (F_Ldraw : FnAt P w K mg base 1 "_law_draw" ["spring", "many"] (spDraw K)) : FnOk P w K mg base CX0 2 f fd ["spring", "boxes"] (spValue K) := by
  refine F.ok sc_Lvalue (fun vs H Q E h => ?_) (fun cdv A outer s H vs Q E hr h => ?_)
  · obtain ⟨r, b, rfl, _⟩ := h
    rfl
  · obtain ⟨r, b, rfl, R, b0, b1, k⟩ := h
    refine ⟨_, (pss_cons (ps_if (pt_cmpR op_eq (pe_fn F_Ldraw (hr.mono (by decide)) (by rfl) (pa_cons (pv 0) (pa_cons pe_int pa_nil))) pe_int (nomark _)) (pss_one (ps_ret (pe_tup (pa_cons pe_str (pa_cons (pe_fn F_Ldraw (hr.mono (by decide)) (by rfl) (pa_cons (pv 0) (pa_cons (pe_ix (ix_listK (K := K) rfl) (pe_lst (pa_cons pe_int (pa_cons pe_int pa_nil))) (pe_fn F_Ldraw (hr.mono (by decide)) (by rfl) (pa_cons (pv 0) (pa_cons pe_int pa_nil))) (fun _ _ => rfl)) pa_nil))) pa_nil))))) pss_nil)
      (pss_one (ps_ret (pe_tup (pa_cons pe_str (pa_cons (pe_ix ix_str pe_str (pe_fn F_Ldraw (hr.mono (by decide)) (by rfl) (pa_cons (pv 0) (pa_cons (pv 1) pa_nil))) (fun _ _ => rfl)) pa_nil)))))), ?_⟩
    refine ⟨_, rfl, r, 2, rfl, R, by decide, by decide, fun z H1 z0 z1 R1 k1 => ⟨rfl, _, rfl, ?_⟩⟩
    refine ite2 (fun _ => ?_) (fun _ => ?_)
    · refine ⟨_, rfl, (by show 2 ≤ sizeLine; decide), fun l hl => ?_⟩
      have sl := same_new (o := HO.lst [V.int 4, V.int 1000]) hl
      have nlr : l ≠ r := R1.ne hl
      refine ⟨_, rfl, r, 2, rfl, R1.keep sl, by decide, by decide, fun q H2 q0 q1 R2 k2 => ?_⟩
      obtain ⟨bb, eb, b0, b1⟩ : ∃ bb : Int, atI [V.int 4, V.int 1000] q = some (.int bb) ∧ 0 < bb ∧ bb ≤ 1000 := by
        have : q = 0 ∨ q = 1 := by omega
        rcases this with rfl | rfl
        · exact ⟨4, rfl, by decide, by decide⟩
        · exact ⟨1000, rfl, by decide, by decide⟩
      refine ⟨_, _, _, _, rfl, rfl, SqL.of (k2 _ _ upd_same nlr), eb, r, bb, rfl, R2, b0, by omega, fun n H3 n0 n1 R3 k3 => ?_⟩
      refine ⟨(by show 2 ≤ sizeLine; decide), fun p hp => ?_⟩
      have sp := same_new (o := HO.tup [V.str (Str.ofString "number"), V.int n]) hp
      exact k _ (.num n) _ (dat_x1 (x := .num n) upd_same) ⟨n0, by omega⟩ (R3.keep sp) ((((k1.trans (.of_same sl)).trans k2).trans k3).trans (.of_same sp))
    refine ⟨_, rfl, _, rfl, r, b, rfl, R1, b0, by omega, fun n H2 n0 n1 R2 k2 => ?_⟩
    refine ⟨_, _, _, rfl, rfl, abc_len, box_cp' n0 (by omega), (by show 2 ≤ sizeLine; decide), fun p hp => ?_⟩
    have sp := same_new (o := HO.tup [V.str (Str.ofString "box"), V.str (bxS n.toNat)]) hp
    exact k _ (.box n.toNat) _ (dat_x1 (x := .box n.toNat) upd_same) (by show n.toNat < 8; omega) (R2.keep sp) ((k1.trans k2).trans (.of_same sp))
def spWorth (K : PySem.W.Frag) : Sp := fun vs H Q _ => ∃ (r : Addr) (b : Int), vs = [.ref r, .int b] ∧ SpringOk H r ∧ 0 < b ∧ b ≤ 8 ∧ ∀ (v : V) (e : Exx) (H' : Hp), Dat H' v (exD e) → exOk e → SpringOk H' r → Kp r H H' → Q v H'
theorem ok_worth {f : Addr} {fd : FuncData} (F : Fun K "_law_worth" "_law_worth" s_Lworth f fd) (F_Ldraw : FnAt P w K mg base 1 "_law_draw" ["spring", "many"] (spDraw K)) (F_Lvalue : FnAt P w K mg base 2 "_law_value" ["spring", "boxes"] (spValue K)) : FnOk P w K mg base CX0 3 f fd ["spring", "boxes"] (spWorth K) := by
  refine F.ok sc_Lworth (fun vs H Q E h => ?_) (fun cdv A outer s H vs Q E hr h => ?_)
  · obtain ⟨r, b, rfl, _⟩ := h
    rfl
  · obtain ⟨r, b, rfl, R, b0, b1, k⟩ := h
    refine ⟨_, (pss_cons (ps_set (i := 2) sc_Lworth.nd rfl (Or.inl rfl) (pe_fn F_Ldraw (hr.mono (by decide)) (by rfl) (pa_cons (pv 0) (pa_cons pe_int pa_nil))))
      (pss_cons (ps_set (i := 3) sc_Lworth.nd rfl (Or.inl rfl) (pe_fn F_Lvalue (hr.mono (by decide)) (by rfl) (pa_cons (pv 0) (pa_cons (pv 1) pa_nil))))
      (pss_cons (ps_if (pt_cmpR op_lt (pv 2) pe_int (nomark _)) (pss_one (ps_ret (pv 3))) pss_nil)
      (pss_one (ps_ret (pe_tup (pa_cons (pe_ix (ix_listK (K := K) rfl) (pe_lst (pa_cons pe_str (pa_cons pe_str pa_nil))) (pe_op op_sub (pv 2) pe_int) (fun _ _ => rfl)) (pa_cons (pv 3) (pa_cons (pe_fn F_Lvalue (hr.mono (by decide)) (by rfl) (pa_cons (pv 0) (pa_cons (pv 1) pa_nil))) pa_nil))))))))), ?_⟩
    refine ⟨_, rfl, r, 4, rfl, R, by decide, by decide, fun z H1 z0 z1 R1 k1 => ?_⟩
    refine ⟨_, rfl, _, rfl, r, b, rfl, R1, b0, b1, fun v x H2 dx xo R2 k2 => ?_⟩
    refine ⟨_, rfl, _, _, rfl, rfl, _, rfl, ?_⟩
    have k12 := k1.trans k2
    refine ite2 (fun _ => ?_) (fun zz => ?_)
    · exact ⟨_, rfl, k v (.one x) H2 dx xo R2 k12⟩
    have z2 : 2 ≤ z := by simp at zz; omega
    refine ⟨(by show 2 ≤ sizeLine; decide), fun l hl => ?_⟩
    have sl := same_new (o := HO.lst [V.str (Str.ofString "plus"), V.str (Str.ofString "minus")]) hl
    obtain ⟨q, eq⟩ : ∃ q : Bool, atI [V.str (Str.ofString "plus"), V.str (Str.ofString "minus")] (z - 2) = some (.str (if q then "plus" else "minus")) := by
      have : z = 2 ∨ z = 3 := by omega
      rcases this with rfl | rfl
      · exact ⟨true, rfl⟩
      · exact ⟨false, rfl⟩
    refine ⟨_, rfl, _, _, rfl, rfl, _, _, _, _, rfl, rfl, SqL.of upd_same, eq, ?_⟩
    have R3 := R2.keep sl
    refine ⟨_, rfl, _, rfl, _, rfl, r, b, rfl, R3, b0, b1, fun u y H4 dy yo R4 k4 => ?_⟩
    refine ⟨(by show 3 ≤ sizeLine; decide), fun p hp => ?_⟩
    have sp := same_new (o := HO.tup [V.str (if q then "plus" else "minus"), v, u]) hp
    have dx4 := dx.keep (fun a xs e => sp _ _ (R3.tups k4 _ _ (sl _ _ e))) _ (imm_x1 x)
    exact k _ (.two q x y) _ (dat_two upd_same dx4 (dy.same sp _)) ⟨xo, yo⟩ (R4.keep sp) (((k12.trans (.of_same sl)).trans k4).trans (.of_same sp))
def wordsL : List V := [.str "load", .str "store", .str "swap", .str "let", .str "say", .str "go", .str "unless", .str "swap", .str "load", .str "store"]
theorem words_at {z : Int} (h0 : 0 ≤ z) (h1 : z < 10) : ∃ wd : Str, atI wordsL z = some (.str wd) ∧ (wd = "load" ∨ wd = "store" ∨ wd = "swap" ∨ wd = "let" ∨ wd = "say" ∨ wd = "go" ∨ wd = "unless") := by
  have : z = 0 ∨ z = 1 ∨ z = 2 ∨ z = 3 ∨ z = 4 ∨ z = 5 ∨ z = 6 ∨ z = 7 ∨ z = 8 ∨ z = 9 := by omega
  rcases this with rfl | rfl | rfl | rfl | rfl | rfl | rfl | rfl | rfl | rfl
  · exact ⟨_, rfl, .inl rfl⟩
  · exact ⟨_, rfl, .inr (.inl rfl)⟩
  · exact ⟨_, rfl, .inr (.inr (.inl rfl))⟩
  · exact ⟨_, rfl, .inr (.inr (.inr (.inl rfl)))⟩
  · exact ⟨_, rfl, .inr (.inr (.inr (.inr (.inl rfl))))⟩
  · exact ⟨_, rfl, .inr (.inr (.inr (.inr (.inr (.inl rfl)))))⟩
  · exact ⟨_, rfl, .inr (.inr (.inr (.inr (.inr (.inr rfl)))))⟩
  · exact ⟨_, rfl, .inr (.inr (.inl rfl))⟩
  · exact ⟨_, rfl, .inl rfl⟩
  · exact ⟨_, rfl, .inr (.inl rfl)⟩
def spLine (K : PySem.W.Frag) : Sp := fun vs H Q _ => ∃ (r : Addr) (bx sz : Int) (m : Nat), vs = [.ref r, .int m, .int bx, .int sz] ∧ SpringOk H r ∧ 0 ≤ sz ∧ sz ≤ 100 ∧ 0 < m ∧ m ≤ 20 ∧ 0 < bx ∧ bx ≤ 8 ∧ ∀ (v : V) (x : Rw) (H' : Hp), Dat H' v (rwD x) → rwOk m x → SpringOk H' r → Kp r H H' → Q v H'
theorem ok_line {f : Addr} {fd : FuncData} (F : Fun K "_law_line" "_law_line" s_Lline f fd) (F_Ldraw : FnAt P w K mg base 1 "_law_draw" ["spring", "many"] (spDraw K)) (F_Lworth : FnAt P w K mg base 3 "_law_worth" ["spring", "boxes"] (spWorth K)) : FnOk P w K mg base CX0 4 f fd ["spring", "room", "boxes", "many"] (spLine K) := by
  refine F.ok sc_Lline (fun vs H Q E h => ?_) (fun cdv A outer s H vs Q E hr h => ?_)
  · obtain ⟨r, bx, sz, m, rfl, _⟩ := h
    rfl
  · obtain ⟨r, bx, sz, m, rfl, R, z0, z1, m0, m1, b0, b1, k⟩ := h
    refine ⟨_, (pss_cons (ps_set (i := 4) sc_Lline.nd rfl (Or.inl rfl) (pe_ix (ix_listK (K := K) rfl) (pe_lst (pa_cons pe_str (pa_cons pe_str (pa_cons pe_str (pa_cons pe_str (pa_cons pe_str (pa_cons pe_str (pa_cons pe_str (pa_cons pe_str (pa_cons pe_str (pa_cons pe_str pa_nil))))))))))) (pe_fn F_Ldraw (hr.mono (by decide)) (by rfl) (pa_cons (pv 0) (pa_cons pe_int pa_nil))) (fun _ _ => rfl)))
      (pss_cons (ps_set (i := 5) sc_Lline.nd rfl (Or.inl rfl) (pe_ix ix_str pe_str (pe_fn F_Ldraw (hr.mono (by decide)) (by rfl) (pa_cons (pv 0) (pa_cons (pv 2) pa_nil))) (fun _ _ => rfl)))
      (pss_cons (ps_set (i := 6) sc_Lline.nd rfl (Or.inl rfl) (pe_fn F_Ldraw (hr.mono (by decide)) (by rfl) (pa_cons (pv 0) (pa_cons (pv 1) pa_nil))))
      (pss_cons (ps_set (i := 7) sc_Lline.nd rfl (Or.inl rfl) (pe_fn F_Ldraw (hr.mono (by decide)) (by rfl) (pa_cons (pv 0) (pa_cons (pe_op op_add (pv 3) pe_int) pa_nil))))
      (pss_cons (ps_set (i := 8) sc_Lline.nd rfl (Or.inl rfl) (pe_fn F_Lworth (hr.mono (by decide)) (by rfl) (pa_cons (pv 0) (pa_cons (pv 2) pa_nil))))
      (pss_cons (ps_if (pt_cmpR op_eq (pv 4) pe_str (nomark _)) (pss_one (ps_ret (pe_tup (pa_cons (pv 4) (pa_cons (pv 5) (pa_cons (pv 6) pa_nil)))))) pss_nil)
      (pss_cons (ps_if (pt_cmpR op_eq (pv 4) pe_str (nomark _)) (pss_one (ps_ret (pe_tup (pa_cons (pv 4) (pa_cons (pv 6) (pa_cons (pv 8) pa_nil)))))) pss_nil)
      (pss_cons (ps_if (pt_cmpR op_eq (pv 4) pe_str (nomark _)) (pss_one (ps_ret (pe_tup (pa_cons (pv 4) (pa_cons (pv 5) (pa_cons (pv 6) (pa_cons (pv 8) pa_nil))))))) pss_nil)
      (pss_cons (ps_if (pt_cmpR op_eq (pv 4) pe_str (nomark _)) (pss_one (ps_ret (pe_tup (pa_cons (pv 4) (pa_cons (pv 5) (pa_cons (pv 8) pa_nil)))))) pss_nil)
      (pss_cons (ps_if (pt_cmpR op_eq (pv 4) pe_str (nomark _)) (pss_one (ps_ret (pe_tup (pa_cons (pv 4) (pa_cons (pv 8) pa_nil))))) pss_nil)
      (pss_cons (ps_if (pt_cmpR op_eq (pv 4) pe_str (nomark _)) (pss_one (ps_ret (pe_tup (pa_cons (pv 4) (pa_cons (pv 7) pa_nil))))) pss_nil)
      (pss_one (ps_ret (pe_tup (pa_cons (pv 4) (pa_cons (pe_ix (ix_listK (K := K) rfl) (pe_lst (pa_cons pe_str (pa_cons pe_str pa_nil))) (pe_fn F_Ldraw (hr.mono (by decide)) (by rfl) (pa_cons (pv 0) (pa_cons pe_int pa_nil))) (fun _ _ => rfl)) (pa_cons (pv 8) (pa_cons (pe_fn F_Lworth (hr.mono (by decide)) (by rfl) (pa_cons (pv 0) (pa_cons (pv 2) pa_nil))) (pa_cons (pv 7) pa_nil))))))))))))))))))), ?_⟩
    refine ⟨(by show 10 ≤ sizeLine; decide), fun l hl => ?_⟩
    have sl := same_new (o := HO.lst wordsL) hl
    have nlr : l ≠ r := R.ne hl
    refine ⟨_, rfl, r, 10, rfl, R.keep sl, by decide, by decide, fun kd H1 kd0 kd1 R1 k1 => ?_⟩
    obtain ⟨wd, ew, hw⟩ := words_at kd0 kd1
    refine ⟨_, _, _, _, rfl, rfl, SqL.of (k1 _ _ (show upd H l (.lst wordsL) l = some (.lst wordsL) from upd_same) nlr), ew, ?_⟩
    refine ⟨_, rfl, _, rfl, r, bx, rfl, R1, b0, by omega, fun i H3 i0 i1 R3 k3 => ?_⟩
    refine ⟨_, _, _, rfl, rfl, abc_len, box_cp' i0 (by omega), ?_⟩
    refine ⟨_, rfl, _, rfl, r, m, rfl, R3, by omega, by omega, fun c H4 c0 c1 R4 k4 => ?_⟩
    obtain ⟨c, rfl⟩ := Int.eq_ofNat_of_zero_le c0
    refine ⟨_, rfl, _, rfl, _, _, rfl, rfl, r, _, rfl, R4, by omega, by omega, fun to H5 t0 t1 R5 k5 => ?_⟩
    obtain ⟨to, rfl⟩ := Int.eq_ofNat_of_zero_le t0
    refine ⟨_, rfl, _, rfl, r, bx, rfl, R5, b0, b1, fun v e H6 d eo R6 k6 => ?_⟩
    have K6 : Kp r H H6 := (((((Kp.of_same sl).trans k1).trans k3).trans k4).trans k5).trans k6
    have ib : i.toNat < 8 := by omega
    have cm : c < m := by omega
    clear k1 k3 k4 k5 k6 R1 R3 R4 R5 sl
    rcases hw with rfl | rfl | rfl | rfl | rfl | rfl | rfl
    · refine ⟨_, rfl, rfl, _, rfl, ite2 (fun _ => ?_) (fun z => absurd (decide_eq_true rfl) z)⟩
      refine ⟨_, rfl, _, rfl, _, rfl, (by show 3 ≤ sizeLine; decide), fun p hp => ?_⟩
      have sp := same_new (o := HO.tup [V.str (Str.ofString "load"), V.str (bxS i.toNat), V.int c]) hp
      exact k _ (.load i.toNat c) _ (dat_load upd_same) ⟨ib, cm⟩ (R6.keep sp) (K6.trans (.of_same sp))
    · refine ⟨_, rfl, rfl, _, rfl, ite2 (fun z => absurd (of_decide_eq_true z) (by decide)) (fun _ => ?_)⟩
      refine ⟨_, rfl, rfl, _, rfl, ite2 (fun _ => ?_) (fun z => absurd (decide_eq_true rfl) z)⟩
      refine ⟨_, rfl, _, rfl, _, rfl, (by show 3 ≤ sizeLine; decide), fun p hp => ?_⟩
      have sp := same_new (o := HO.tup [V.str (Str.ofString "store"), V.int c, v]) hp
      exact k _ (.store c e) _ (dat_store upd_same (d.same sp _)) ⟨cm, eo⟩ (R6.keep sp) (K6.trans (.of_same sp))
    · refine ⟨_, rfl, rfl, _, rfl, ite2 (fun z => absurd (of_decide_eq_true z) (by decide)) (fun _ => ?_)⟩
      refine ⟨_, rfl, rfl, _, rfl, ite2 (fun z => absurd (of_decide_eq_true z) (by decide)) (fun _ => ?_)⟩
      refine ⟨_, rfl, rfl, _, rfl, ite2 (fun _ => ?_) (fun z => absurd (decide_eq_true rfl) z)⟩
      refine ⟨_, rfl, _, rfl, _, rfl, _, rfl, (by show 4 ≤ sizeLine; decide), fun p hp => ?_⟩
      have sp := same_new (o := HO.tup [V.str (Str.ofString "swap"), V.str (bxS i.toNat), V.int c, v]) hp
      exact k _ (.swap i.toNat c e) _ (dat_swap upd_same (d.same sp _)) ⟨ib, cm, eo⟩ (R6.keep sp) (K6.trans (.of_same sp))
    · refine ⟨_, rfl, rfl, _, rfl, ite2 (fun z => absurd (of_decide_eq_true z) (by decide)) (fun _ => ?_)⟩
      refine ⟨_, rfl, rfl, _, rfl, ite2 (fun z => absurd (of_decide_eq_true z) (by decide)) (fun _ => ?_)⟩
      refine ⟨_, rfl, rfl, _, rfl, ite2 (fun z => absurd (of_decide_eq_true z) (by decide)) (fun _ => ?_)⟩
      refine ⟨_, rfl, rfl, _, rfl, ite2 (fun _ => ?_) (fun z => absurd (decide_eq_true rfl) z)⟩
      refine ⟨_, rfl, _, rfl, _, rfl, (by show 3 ≤ sizeLine; decide), fun p hp => ?_⟩
      have sp := same_new (o := HO.tup [V.str (Str.ofString "let"), V.str (bxS i.toNat), v]) hp
      exact k _ (.lett i.toNat e) _ (dat_let upd_same (d.same sp _)) ⟨ib, eo⟩ (R6.keep sp) (K6.trans (.of_same sp))
    · refine ⟨_, rfl, rfl, _, rfl, ite2 (fun z => absurd (of_decide_eq_true z) (by decide)) (fun _ => ?_)⟩
      refine ⟨_, rfl, rfl, _, rfl, ite2 (fun z => absurd (of_decide_eq_true z) (by decide)) (fun _ => ?_)⟩
      refine ⟨_, rfl, rfl, _, rfl, ite2 (fun z => absurd (of_decide_eq_true z) (by decide)) (fun _ => ?_)⟩
      refine ⟨_, rfl, rfl, _, rfl, ite2 (fun z => absurd (of_decide_eq_true z) (by decide)) (fun _ => ?_)⟩
      refine ⟨_, rfl, rfl, _, rfl, ite2 (fun _ => ?_) (fun z => absurd (decide_eq_true rfl) z)⟩
      refine ⟨_, rfl, _, rfl, (by show 2 ≤ sizeLine; decide), fun p hp => ?_⟩
      have sp := same_new (o := HO.tup [V.str (Str.ofString "say"), v]) hp
      exact k _ (.say e) _ (dat_say upd_same (d.same sp _)) eo (R6.keep sp) (K6.trans (.of_same sp))
    · refine ⟨_, rfl, rfl, _, rfl, ite2 (fun z => absurd (of_decide_eq_true z) (by decide)) (fun _ => ?_)⟩
      refine ⟨_, rfl, rfl, _, rfl, ite2 (fun z => absurd (of_decide_eq_true z) (by decide)) (fun _ => ?_)⟩
      refine ⟨_, rfl, rfl, _, rfl, ite2 (fun z => absurd (of_decide_eq_true z) (by decide)) (fun _ => ?_)⟩
      refine ⟨_, rfl, rfl, _, rfl, ite2 (fun z => absurd (of_decide_eq_true z) (by decide)) (fun _ => ?_)⟩
      refine ⟨_, rfl, rfl, _, rfl, ite2 (fun z => absurd (of_decide_eq_true z) (by decide)) (fun _ => ?_)⟩
      refine ⟨_, rfl, rfl, _, rfl, ite2 (fun _ => ?_) (fun z => absurd (decide_eq_true rfl) z)⟩
      refine ⟨_, rfl, _, rfl, (by show 2 ≤ sizeLine; decide), fun p hp => ?_⟩
      have sp := same_new (o := HO.tup [V.str (Str.ofString "go"), V.int to]) hp
      exact k _ (.go to) _ (dat_go upd_same) trivial (R6.keep sp) (K6.trans (.of_same sp))
    · refine ⟨_, rfl, rfl, _, rfl, ite2 (fun z => absurd (of_decide_eq_true z) (by decide)) (fun _ => ?_)⟩
      refine ⟨_, rfl, rfl, _, rfl, ite2 (fun z => absurd (of_decide_eq_true z) (by decide)) (fun _ => ?_)⟩
      refine ⟨_, rfl, rfl, _, rfl, ite2 (fun z => absurd (of_decide_eq_true z) (by decide)) (fun _ => ?_)⟩
      refine ⟨_, rfl, rfl, _, rfl, ite2 (fun z => absurd (of_decide_eq_true z) (by decide)) (fun _ => ?_)⟩
      refine ⟨_, rfl, rfl, _, rfl, ite2 (fun z => absurd (of_decide_eq_true z) (by decide)) (fun _ => ?_)⟩
      refine ⟨_, rfl, rfl, _, rfl, ite2 (fun z => absurd (of_decide_eq_true z) (by decide)) (fun _ => ?_)⟩
      refine ⟨_, rfl, (by show 2 ≤ sizeLine; decide), fun l2 hl2 => ?_⟩
      have sl2 := same_new (o := HO.lst [V.str (Str.ofString "="), V.str (Str.ofString "<")]) hl2
      have nl2 : l2 ≠ r := R6.ne hl2
      refine ⟨_, rfl, r, 2, rfl, R6.keep sl2, by decide, by decide, fun q H7 q0 q1 R7 k7 => ?_⟩
      obtain ⟨qb, eqb⟩ : ∃ qb : Bool, atI [V.str (Str.ofString "="), V.str (Str.ofString "<")] q = some (.str (if qb then "=" else "<")) := by
        have : q = 0 ∨ q = 1 := by omega
        rcases this with rfl | rfl
        · exact ⟨true, rfl⟩
        · exact ⟨false, rfl⟩
      refine ⟨_, _, _, _, rfl, rfl, SqL.of (k7 _ _ upd_same nl2), eqb, _, rfl, _, rfl, _, rfl, r, bx, rfl, R7, b0, b1, fun v' e' H8 d' eo' R8 k8 => ?_⟩
      refine ⟨_, rfl, (by show 5 ≤ sizeLine; decide), fun p hp => ?_⟩
      have sp := same_new (o := HO.tup [V.str (Str.ofString "unless"), V.str (if qb then "=" else "<"), v, v', V.int to]) hp
      have d8 := d.keep (fun a xs e => sp _ _ (R7.tups k8 _ _ ((R6.keep sl2).tups k7 _ _ (sl2 _ _ e)))) _ (imm_ex e)
      exact k _ (.unl qb e e' to) _ (dat_unl upd_same d8 (d'.same sp _)) ⟨eo, eo'⟩ (R8.keep sp) ((((K6.trans (.of_same sl2)).trans k7).trans k8).trans (.of_same sp))

structure Pg (τ : Tg) (H : Hp) (p L : Addr) (rs : List Addr) (rws : List (List Rw)) (m : Nat) : Prop where
  ep : H p = some (.tup [.int m, .ref L])
  eL : H L = some (.lst (rs.map V.ref))
  tL : τ L = [0]
  len : rs.length = rws.length
  row : ∀ (k : Nat) (r : Addr) (x : List Rw), rs[k]? = some r → rws[k]? = some x → τ r = [0] ∧ RowsH H r m x
theorem Pg.mv {i : Nat} {τ τ' : Tg} {H H' : Hp} {p L : Addr} {rs : List Addr} {rws : List (List Rw)} {m : Nat} (g : Pg τ H p L rs rws m) (q : Mv i τ H τ' H') : Pg τ' H' p L rs rws m := by
  have e := q.keep _ _ g.eL (.inl g.tL)
  exact ⟨q.tup _ _ g.ep, e.1, e.2.trans g.tL, g.len, fun k r x h1 h2 => rows_mv (g.row k r x h1 h2) q⟩
theorem Pg.same {τ : Tg} {H H' : Hp} {p L : Addr} {rs : List Addr} {rws : List (List Rw)} {m : Nat} (g : Pg τ H p L rs rws m) (k : Same H H') : Pg τ H' p L rs rws m := g.mv (Mv.of_same (i := 0) k)

def spProg (K : PySem.W.Frag) : Sp := fun vs H Q _ => ∃ (r : Addr) (τ : Tg), vs = [.ref r] ∧ ST τ H r ∧ ∀ (p L : Addr) (rs : List Addr) (rws : List (List Rw)) (m : Nat) (τ' : Tg) (H' : Hp), Pg τ' H' p L rs rws m → 0 < rws.length → rws.length ≤ 8 → 0 < m → m ≤ 20 → (∀ x ∈ rws, x.length ≤ 60) → ST τ' H' r → (∀ x u, H x = some u → τ' x = τ x) → Kp r H H' → Q (.ref p) H'
theorem two_at (a b : Int) (q : Bool) : ∃ nn : Int, atI [V.int a, V.int b] (if q then 1 else 0) = some (.int nn) ∧ (nn = a ∨ nn = b) := by
  cases q
  · exact ⟨a, rfl, .inl rfl⟩
  · exact ⟨b, rfl, .inr rfl⟩
theorem ok_prog {f : Addr} {fd : FuncData} (F : Fun K "_law_program" "_law_program" s_Lprogram f fd) (F_Ldraw : FnAt P w K mg base 1 "_law_draw" ["spring", "many"] (spDraw K)) (F_Lline : FnAt P w K mg base 4 "_law_line" ["spring", "room", "boxes", "many"] (spLine K)) (Bt : Blt mg) : FnOk P w K mg base CX0 5 f fd ["spring"] (spProg K) := by
  refine F.ok sc_Lprogram (fun vs H Q E h => ?_) (fun cdv A outer s H vs Q E hr h => ?_)
  · obtain ⟨r, τ, rfl, _⟩ := h
    rfl
  · obtain ⟨r, τ, rfl, T, k⟩ := h
    refine ⟨_, (pss_cons (ps_set (i := 1) sc_Lprogram.nd rfl (Or.inl rfl) (pe_op op_add pe_int (pe_fn F_Ldraw (hr.mono (by decide)) (by rfl) (pa_cons (pv 0) (pa_cons (pe_ix (ix_listK (K := K) rfl) (pe_lst (pa_cons pe_int (pa_cons pe_int pa_nil))) (pe_callTy call_int1 (by rfl) Bt.b_int bt_int (pa_cons (pe_cmpR op_eq (pe_fn F_Ldraw (hr.mono (by decide)) (by rfl) (pa_cons (pv 0) (pa_cons pe_int pa_nil))) pe_int (nomark _)) pa_nil)) (fun _ _ => rfl)) pa_nil)))))
      (pss_cons (ps_set (i := 2) sc_Lprogram.nd rfl (Or.inr rfl) (pe_op op_add pe_int (pe_fn F_Ldraw (hr.mono (by decide)) (by rfl) (pa_cons (pv 0) (pa_cons (pe_ix (ix_listK (K := K) rfl) (pe_lst (pa_cons pe_int (pa_cons pe_int (pa_cons pe_int (pa_cons pe_int pa_nil))))) (pe_fn F_Ldraw (hr.mono (by decide)) (by rfl) (pa_cons (pv 0) (pa_cons pe_int pa_nil))) (fun _ _ => rfl)) pa_nil)))))
      (pss_cons (ps_set (i := 3) sc_Lprogram.nd rfl (Or.inr rfl) (pe_ix (ix_listK (K := K) rfl) (pe_lst (pa_cons pe_int (pa_cons pe_int pa_nil))) (pe_fn F_Ldraw (hr.mono (by decide)) (by rfl) (pa_cons (pv 0) (pa_cons pe_int pa_nil))) (fun _ _ => rfl)))
      (pss_cons (ps_set (i := 4) sc_Lprogram.nd rfl (Or.inl rfl) (pe_lst pa_nil))
      (pss_cons (ps_for PassesOwn.never rfl (pi_range1 (by rfl) Bt.b_range (pa_cons (pv 1) pa_nil)) (pg_name (i := 5) sc_Lprogram.nd rfl (Or.inl rfl))
      (pss_cons (ps_set (i := 6) sc_Lprogram.nd rfl (Or.inr rfl) (pe_fn F_Ldraw (hr.mono (by decide)) (by rfl) (pa_cons (pv 0) (pa_cons (pe_ix (ix_listK (K := K) rfl) (pe_lst (pa_cons pe_int (pa_cons pe_int pa_nil))) (pe_callTy call_int1 (by rfl) Bt.b_int bt_int (pa_cons (pe_cmpR op_eq (pe_fn F_Ldraw (hr.mono (by decide)) (by rfl) (pa_cons (pv 0) (pa_cons pe_int pa_nil))) pe_int (nomark _)) pa_nil)) (fun _ _ => rfl)) pa_nil))))
      (pss_one (ps_expr (pe_appendK (K := K) rfl (pv 4) (pa_cons (pe_comp rfl (N := ["at", "spring", "room", "boxes", "many"]) (own := ["at"]) (caps := [0, 2, 3, 6]) (CompScope.of (by kernel_rfl)) (pi_range1 (by rfl) Bt.b_range (pa_cons (pv 6) pa_nil)) (fun _ _ _ _ => (pg_name (i := 0) (show List.Nodup (["at", "spring", "room", "boxes", "many"] : List Str) by decide +kernel) rfl (Or.inl rfl))) (fun _ _ _ _ => pts_nil) (fun _ _ _ _ => (pe_fn F_Lline (hr.mono (by decide)) (by rfl) (pa_cons (pv 1) (pa_cons (pv 2) (pa_cons (pv 3) (pa_cons (pv 4) pa_nil))))))) pa_nil))))))
      (pss_one (ps_ret (pe_tup (pa_cons (pv 2) (pa_cons (pv 4) pa_nil)))))))))), ?_⟩
    -- hands
    refine ⟨_, rfl, (by show 2 ≤ sizeLine; decide), fun l1 hl1 => ?_⟩
    have sl1 := same_new (o := HO.lst [V.int 4, V.int 8]) hl1
    have nl1 : l1 ≠ r := T.S.ne hl1
    refine ⟨_, rfl, r, 8, rfl, T.S.keep sl1, by decide, by decide, fun z1 H1 z10 z11 R1 k1 => ⟨rfl, .inr ⟨_, rfl, ?_⟩⟩⟩
    obtain ⟨n1, en1, hn1⟩ := two_at 4 8 (decide (V.int z1 = V.int 7))
    refine ⟨_, _, _, _, rfl, rfl, SqL.of (k1 _ _ upd_same nl1), en1, r, n1, rfl, R1, by omega, by omega, fun cnt H2 c0 c1 R2 k2 => ⟨_, _, rfl, rfl, ?_⟩⟩
    have T2 := ((T.same sl1).draw k1 R1).draw k2 R2
    have kp2 := ((Kp.of_same (r := r) sl1).trans k1).trans k2
    have cb : 1 + cnt ≤ 8 := by omega
    clear k1 k2 R1 en1
    -- room
    refine ⟨_, rfl, (by show 4 ≤ sizeLine; decide), fun l2 hl2 => ?_⟩
    have sl2 := same_new (o := HO.lst [V.int 1, V.int 2, V.int 3, V.int 20]) hl2
    have nl2 : l2 ≠ r := R2.ne hl2
    refine ⟨_, rfl, r, 4, rfl, R2.keep sl2, by decide, by decide, fun z H3 z0 z1 R3 k3 => ?_⟩
    obtain ⟨bb, eb, b0, b1⟩ : ∃ bb : Int, atI [V.int 1, V.int 2, V.int 3, V.int 20] z = some (.int bb) ∧ 0 < bb ∧ bb ≤ 20 := by
      have : z = 0 ∨ z = 1 ∨ z = 2 ∨ z = 3 := by omega
      rcases this with rfl | rfl | rfl | rfl
      · exact ⟨1, rfl, by decide, by decide⟩
      · exact ⟨2, rfl, by decide, by decide⟩
      · exact ⟨3, rfl, by decide, by decide⟩
      · exact ⟨20, rfl, by decide, by decide⟩
    refine ⟨_, _, _, _, rfl, rfl, SqL.of (k3 _ _ upd_same nl2), eb, r, bb, rfl, R3, b0, by omega, fun i H4 i0 i1 R4 k4 => ⟨_, _, rfl, rfl, ?_⟩⟩
    have T4 := ((T2.same sl2).draw k3 R3).draw k4 R4
    have kp4 := ((kp2.trans (Kp.of_same (r := r) sl2)).trans k3).trans k4
    obtain ⟨m, em, m0, m20⟩ : ∃ m : Nat, (1 : Int) + i = m ∧ 0 < m ∧ m ≤ 20 := ⟨(1 + i).toNat, by omega, by omega, by omega⟩
    dsimp only [gName]
    rw [em]
    clear k3 k4 R3 eb
    -- boxes
    refine ⟨(by show 2 ≤ sizeLine; decide), fun l4 hl4 => ?_⟩
    have sl4 := same_new (o := HO.lst [V.int 2, V.int 8]) hl4
    have nl4r : l4 ≠ r := R4.ne hl4
    refine ⟨_, rfl, r, 2, rfl, R4.keep sl4, by decide, by decide, fun z4 H5 z40 z41 R5 k5 => ?_⟩
    have T5 := (T4.same sl4).draw k5 R5
    obtain ⟨bx, ebx, bx0, bx1⟩ : ∃ bb : Int, atI [V.int 2, V.int 8] z4 = some (.int bb) ∧ 0 < bb ∧ bb ≤ 8 := by
      have : z4 = 0 ∨ z4 = 1 := by omega
      rcases this with rfl | rfl
      · exact ⟨2, rfl, by decide, by decide⟩
      · exact ⟨8, rfl, by decide, by decide⟩
    refine ⟨_, _, _, _, rfl, rfl, SqL.of (k5 _ _ upd_same nl4r), ebx, ?_⟩
    have kp5 : Kp r H H5 := (kp4.trans (Kp.of_same sl4)).trans k5
    clear k5 ebx T4 T2 kp4 kp2
    refine ⟨(by show 0 ≤ sizeLine; decide), fun a ha => ?_⟩
    have sa := same_new (o := HO.lst []) ha
    have nar : a ≠ r := R5.ne ha
    have ha0 : H a = none := kp_none kp5 nar ha
    have T6 := T5.claim (t := [0]) sa ha ⟨_, upd_same⟩
    have tg6 : ∀ x u, H x = some u → tgSet τ a [0] x = τ x := fun x u e => tgSet_ne (ne_of_none e ha0)
    have ta6 : tgSet τ a [0] a = [0] := tgSet_same
    have kp6 := kp5.trans (Kp.of_same sa)
    have ea6 : (upd H5 a (.lst [])) a = some (.lst []) := upd_same
    generalize (upd H5 a (.lst [])) = H6 at sa T6 kp6 ea6 ⊢
    generalize tgSet τ a [0] = τ6 at T6 tg6 ta6
    refine ⟨_, rfl, _, rfl, by omega, by omega, ?_⟩
    refine for_range (lo := 0) (fun j σ Hc => ∃ (v w' : Option V) (τc : Tg) (rs : List Addr) (rws : List (List Rw)), σ = [some (.ref r), some (.int (1 + cnt)), some (.int m), some (.int bx), some (.ref a), v, w'] ∧ ST τc Hc r ∧ Hc a = some (.lst (rs.map V.ref)) ∧ τc a = [0] ∧ rs.length = rws.length ∧ rws.length = j ∧ (∀ x ∈ rws, x.length ≤ 60) ∧ (∀ (k : Nat) (q : Addr) (x : List Rw), rs[k]? = some q → rws[k]? = some x → q ≠ a ∧ τc q = [0] ∧ RowsH Hc q m x) ∧ (∀ x u, H x = some u → τc x = τ x) ∧ Kp r H Hc)
      ⟨none, none, τ6, [], [], rfl, T6, ea6, ta6, rfl, rfl, by simp, fun k q x e => by simp at e, tg6, kp6⟩ ?_ ?_
    · rintro j σ Hc hj ⟨v, w', τc, rs, rws, rfl, Tc, eac, tac, lr, lj, l60, hrs, tgc, kpc⟩
      refine ⟨_, rfl, (by show 2 ≤ sizeLine; decide), fun l8 hl8 => ?_⟩
      have sl8 := same_new (o := HO.lst [V.int 9, V.int 61]) hl8
      have nl8 : l8 ≠ r := Tc.S.ne hl8
      refine ⟨_, rfl, r, 8, rfl, Tc.S.keep sl8, by decide, by decide, fun g H7 g0 g1 R7 k7 => ⟨rfl, .inr ⟨_, rfl, ?_⟩⟩⟩
      obtain ⟨nz, ez, hnz⟩ := two_at 9 61 (decide (V.int g = V.int 7))
      refine ⟨_, _, _, _, rfl, rfl, SqL.of (k7 _ _ upd_same nl8), ez, r, nz, rfl, R7, by omega, by omega, fun sz H8 s0 s1 R8 k8 => ?_⟩
      have T8 := ((Tc.same sl8).draw k7 R7).draw k8 R8
      have k78 := k7.trans k8
      have keep8 : ∀ x o, Hc x = some o → τc x ≠ [] → H8 x = some o := fun x o e t => (Tc.same sl8).keep k78 (sl8 _ _ e) t
      have t8 : ∀ x xs, Hc x = some (.tup xs) → H8 x = some (.tup xs) := fun x xs e => (Tc.same sl8).S.tups k78 _ _ (sl8 _ _ e)
      have ea8 := keep8 _ _ eac (by rw [tac]; simp)
      have kp8 := (kpc.trans (Kp.of_same sl8)).trans k78
      refine ⟨_, rfl, .inl ⟨rfl, _, SqL.of ea8⟩, _, rfl, sz, rfl, by omega, by omega, fun D hD => ?_⟩
      have sD := same_new (o := HO.lst []) hD
      have nDr : D ≠ r := R8.ne hD
      have hD0 : H D = none := kp_none kp8 nDr hD
      have nDa : D ≠ a := (ne_of_none ea8 hD).symm
      have TD := T8.claim (t := [0]) sD hD ⟨_, upd_same⟩
      have tgD : ∀ x u, Hc x = some u → tgSet τc D [0] x = τc x := fun x u e => by
        by_cases z : x = D
        · subst z
          have := k78 _ _ (sl8 _ _ e) nDr
          rw [hD] at this; cases this
        · exact tgSet_ne z
      have tDD : tgSet τc D [0] D = [0] := tgSet_same
      have tDa : tgSet τc D [0] a = [0] := by rw [tgSet_ne nDa.symm]; exact tac
      have tgH : ∀ x u, H x = some u → tgSet τc D [0] x = τ x := fun x u e => by rw [tgSet_ne (ne_of_none e hD0)]; exact tgc x u e
      have hrsD : ∀ (k : Nat) (q : Addr) (x : List Rw), rs[k]? = some q → rws[k]? = some x → q ≠ a ∧ q ≠ D ∧ tgSet τc D [0] q = [0] ∧ RowsH H8 q m x := fun k q x h1 h2 => by
        obtain ⟨n1, t1, R1'⟩ := hrs k q x h1 h2
        have rr := R1'
        obtain ⟨ts, hq, _⟩ := rr
        have hq8 := keep8 _ _ hq (by rw [t1]; simp)
        exact ⟨n1, ne_of_none hq8 hD, by rw [tgD _ _ hq]; exact t1, R1'.keep (fun o e => keep8 _ _ e (by rw [t1]; simp)) t8⟩
      generalize tgSet τc D [0] = τd at TD tgD tDD tDa tgH hrsD
      refine comp_range (lo := 0) (n := sz.toNat) (fun i σ Hd => ∃ (v : Option V) (refs : List V) (rw' : List Rw), σ = [v, some (.ref r), some (.int m), some (.int bx), some (.int sz)] ∧ ST τd Hd r ∧ Hd D = some (.lst refs) ∧ Dats Hd refs (rw'.map rwD) ∧ (∀ x ∈ rw', rwOk m x) ∧ rw'.length = i ∧ Hd a = some (.lst (rs.map V.ref)) ∧ (∀ (k : Nat) (q : Addr) (x : List Rw), rs[k]? = some q → rws[k]? = some x → RowsH Hd q m x) ∧ Kp r H Hd) ?_ ?_ ?_
      · exact ⟨none, [], [], rfl, TD, upd_same, by simp [Dats], by simp, rfl, sD _ _ ea8, fun k q x h1 h2 => ((hrsD k q x h1 h2).2.2.2).same sD, kp8.trans (Kp.of_same sD)⟩
      · rintro i σ Hd hi ⟨v, refs, rw', rfl, Td, hDd, dd, od, ld, ead, hrd, kpd⟩
        dsimp only [gName, tAll]
        rw [if_pos rfl]
        refine ⟨_, rfl, _, rfl, _, rfl, _, rfl, r, bx, sz, m, rfl, Td.S, s0, by omega, m0, m20, bx0, bx1, fun y x H9 dy xo R9 k9 => ?_⟩
        have T9 := Td.draw k9 R9
        have keep9 : ∀ x o, Hd x = some o → τd x ≠ [] → H9 x = some o := fun x o e t => Td.keep k9 e t
        have t9 : ∀ x xs, Hd x = some (.tup xs) → H9 x = some (.tup xs) := Td.S.tups k9
        have hD9 := keep9 _ _ hDd (by rw [tDD]; simp)
        have tu : ∀ a ys, H9 a = some (.tup ys) → (upd H9 D (.lst (refs ++ [y]))) a = some (.tup ys) := fun a ys e => by rw [upd_ne (ne_of e hD9 (by intro z; cases z))]; exact e
        have ll : refs.length = rw'.length := by rw [dd.length, List.length_map]
        refine ⟨refs, hD9, (by rw [ll, sizeLine_eq]; omega), _, refs ++ [y], rw' ++ [x], rfl, T9.set hD9 (by rw [tDD]; simp), upd_same, ?_, ?_, by simp [ld], by rw [upd_ne nDa.symm]; exact keep9 _ _ ead (by rw [tDa]; simp), ?_, ?_⟩
        · rw [List.map_append]
          exact dats_snoc ((dd.kp t9).kp tu) (dy.keep tu _ (imm_rw x))
        · intro q hq
          rcases List.mem_append.mp hq with hq | hq
          · exact od q hq
          · rw [List.mem_singleton.mp hq]; exact xo
        · intro kk q x' h1 h2
          obtain ⟨_, n2, t2, _⟩ := hrsD kk q x' h1 h2
          exact (hrd kk q x' h1 h2).keep (fun o e => by rw [upd_ne n2]; exact keep9 _ _ e (by rw [t2]; simp)) (fun y ys e => tu _ _ (t9 _ _ e))
        · intro x' o e n'
          rw [upd_ne (ne_of_none e hD0)]
          exact k9 _ _ (kpd _ _ e n') n'
      · rintro σ Hd ⟨v, refs, rw', rfl, Td, hDd, dd, od, ld, ead, hrd, kpd⟩
        refine ⟨_, _, _, rfl, rfl, ead, (by rw [List.length_map, lr, lj, sizeLine_eq]; omega), ?_⟩
        have tu : ∀ x ys, Hd x = some (.tup ys) → (upd Hd a (.lst (rs.map V.ref ++ [V.ref D]))) x = some (.tup ys) := fun x ys e => by rw [upd_ne (ne_of e ead (by intro z; cases z))]; exact e
        refine ⟨_, _, τd, rs ++ [D], rws ++ [rw'], rfl, Td.set ead (by rw [tDa]; simp), by rw [upd_same, List.map_append]; rfl, tDa, by simp [lr], by simp [lj], ?_, ?_, tgH, fun x o e n' => by rw [upd_ne (ne_of_none e ha0)]; exact kpd _ _ e n'⟩
        · intro x hx
          rcases List.mem_append.mp hx with hx | hx
          · exact l60 x hx
          · rw [List.mem_singleton.mp hx]; omega
        · intro kk q x h1 h2
          rcases get_snoc h2 with h2 | ⟨ek, rfl⟩
          · have kl := (List.getElem?_eq_some_iff.mp h2).1
            rw [List.getElem?_append_left (by rw [lr]; exact kl)] at h1
            obtain ⟨n1, _, t1, _⟩ := hrsD kk q x h1 h2
            exact ⟨n1, t1, (hrd kk q x h1 h2).keep (fun o e => by rw [upd_ne n1]; exact e) tu⟩
          · have e1 : q = D := by
              rcases get_snoc h1 with h1 | ⟨_, h1⟩
              · have := (List.getElem?_eq_some_iff.mp h1).1; rw [lr] at this; omega
              · exact h1
            subst e1
            exact ⟨nDa, tDD, refs, by rw [upd_ne nDa]; exact hDd, dd.kp tu, od, by omega⟩
    · rintro σ Hc ⟨v, w', τc, rs, rws, rfl, Tc, eac, tac, lr, lj, l60, hrs, tgc, kpc⟩
      refine ⟨_, rfl, _, rfl, (by show 2 ≤ sizeLine; decide), fun p hp => ?_⟩
      have sp := same_new (o := HO.tup [V.int m, V.ref a]) hp
      exact k p a rs rws m τc _ ⟨upd_same, sp _ _ eac, tac, lr, fun k q x h1 h2 => ⟨(hrs k q x h1 h2).2.1, ((hrs k q x h1 h2).2.2).same sp⟩⟩ (by omega) (by omega) m0 m20 l60 (Tc.same sp) tgc (kpc.trans (Kp.of_same sp))

/-- first numbers as handed in: none, or a list -/
def NumV (τ : Tg) (H : Hp) (v : V) (ns : List Int) (m : Nat) : Prop := numOkL m ns ∧ ((v = .non ∧ ns = List.replicate m 0) ∨ ∃ l, v = .ref l ∧ τ l = [0] ∧ H l = some (.lst (ns.map V.int)))
theorem numOk0 (m : Nat) : numOkL m (List.replicate m 0) := ⟨by rw [List.length_replicate], fun x hx => by rw [(List.mem_replicate.mp hx).2]; exact ⟨by decide, by decide⟩⟩
/-! ### works made and gone along a run -/
structure PgH (H : Hp) (p L : Addr) (rs : List Addr) (rws : List (List Rw)) (m : Nat) : Prop where
  ep : H p = some (.tup [.int m, .ref L])
  eL : H L = some (.lst (rs.map V.ref))
  len : rs.length = rws.length
  row : ∀ (k : Nat) (r : Addr) (x : List Rw), rs[k]? = some r → rws[k]? = some x → RowsH H r m x
theorem Pg.h {τ : Tg} {H : Hp} {p L : Addr} {rs : List Addr} {rws : List (List Rw)} {m : Nat} (g : Pg τ H p L rs rws m) : PgH H p L rs rws m := ⟨g.ep, g.eL, g.len, fun k r x h1 h2 => (g.row k r x h1 h2).2⟩
def NumH (H : Hp) (v : V) (ns : List Int) (m : Nat) : Prop := numOkL m ns ∧ ((v = .non ∧ ns = List.replicate m 0) ∨ ∃ l, v = .ref l ∧ H l = some (.lst (ns.map V.int)))
theorem made_wk {CW CH CN : Addr} {i : Nat} {τ : Tg} {H : Hp} {p L : Addr} {rs : List Addr} {rws : List (List Rw)} {m : Nat} {nv : V} {ns : List Int} {Q : Addr → Hp → Prop} (g : PgH H p L rs rws m) (n8 : rws.length ≤ 100) (m20 : m ≤ 100) (un : Unt τ H) (i0 : i ≠ 0) (nh : NumH H nv ns m)
    (go : ∀ (τ' : Tg) (W : WAd) (H' : Hp), WAt CW CH i τ' H' W (begS m ns rws) → (∀ x u, H x = some u → τ' x = τ x) → Same H H' → Q W.o H') (o dx : Addr) (ho : H o = none) (hdx : H dx = none) (ndx : dx ≠ o) :
    spWInit CW CH CN K (.ref o :: ([.ref p, nv] ++ [])) (upd (upd H dx (.own o)) o (.ins CW dx [])) (fun v H' => v = .non ∧ Q o H') (fun _ _ _ => False) := by
  obtain ⟨good, hv⟩ := nh
  have ho' : (upd H dx (.own o)) o = none := by rw [upd_ne ndx.symm]; exact ho
  have sm : Same H (upd (upd H dx (.own o)) o (.ins CW dx [])) := (same_new hdx).trans (same_new ho')
  refine ⟨i, τ, o, dx, p, L, rs, m, nv, ns, rws, rfl, upd_same, sm _ _ g.ep, sm _ _ g.eL, g.len, fun kk q' x h1 h2 => (g.row kk q' x h1 h2).same sm, n8, m20, un.same sm, i0, by have := good.1; omega, ?_, fun _ τ5 W H5 eo w5 tg kp => ⟨rfl, ?_⟩, fun bad => absurd good bad⟩
  · rcases hv with h | ⟨cl, e, h⟩
    · exact .inl h
    · exact .inr ⟨cl, e, sm _ _ h⟩
  · rw [← eo]
    exact go τ5 W H5 w5 (fun x u e => tg x u (sm _ _ e) (ne_of_none e ho)) (fun x u e => kp _ _ (sm _ _ e) (ne_of_none e ho))
def tcV (t : Tc) : List V := [.str (wordR t.r), .int (cellR t.r), oV t.rd, oV t.wr]
def tcD (t : Tc) : PyData := .tuple [.str (wordR t.r), .int (cellR t.r), oD t.rd, oD t.wr]
def webT (t : Tc) : Tch := ((t.k : Int), wordR t.r, (cellR t.r : Int))
theorem imm_oD (x : Option Int) : imm (oD x) = true := by cases x <;> rfl
theorem imm_tc (t : Tc) : imm (tcD t) = true := by simp only [tcD, imm, imms, imm_oD, Bool.and_self]
theorem dat_tc {H : Hp} {p : Addr} {t : Tc} (h : H p = some (.tup (tcV t))) : Dat H (.ref p) (tcD t) := by
  unfold tcD tcV at *
  simp only [Dat]
  exact ⟨p, _, rfl, h, by simp only [Dats, Dat, and_true, true_and]; exact ⟨dat_oV _, dat_oV _⟩⟩
theorem turn_run {CW CH CN CO : Addr} {i : Nat} {τ : Tg} {H : Hp} {W : WAd} {S : WkS} {t : Tc} {Q : VK} (w : WAt CW CH i τ H W S) (tl : S.ts.length ≤ 10000) (a : AtT S t)
    (go : ∀ (p : Addr) (H' : Hp), H p = none → H' p = some (.tup (tcV t)) → WAt CW CH i τ H' W (turnS S t.k) → Stp i τ H H' → Q (.ref p) H') : spTurn CW CH CN CO K [.ref W.o, .int t.k] H Q (fun _ _ _ => False) := by
  obtain ⟨s, es, ws, er, e1, e2⟩ := a
  have kl := (List.getElem?_eq_some_iff.mp es).1
  have inn : inP (t.k : Int) S.hs.length := ⟨by omega, by omega⟩
  have one : ∀ (k' : Nat) (t' : HandS), (t.k : Int) = k' → S.hs[k']? = some t' → t' = s ∧ k' = t.k := fun k' t' e1 e2 => by
    have : k' = t.k := by omega
    subst this
    rw [es] at e2
    exact ⟨(Option.some.inj e2).symm, rfl⟩
  refine ⟨i, τ, W, S, _, rfl, w, tl, fun k' t' r' tt Hk q1 q2 wt' er' tr' tf tk wk stk => ?_, fun z => absurd inn z, fun k' t' e1 e2 z => absurd (by rw [(one k' t' e1 e2).1]; exact ws) z⟩
  obtain ⟨rfl, rfl⟩ := one k' t' q1 q2
  rw [er] at er'
  cases er'
  refine go tt Hk tf ?_ wk stk
  rw [tk]
  unfold tcV touchV
  rw [e1, e2]
theorem run_at {S S' S1 : WkS} {l : List Tc} {j : Nat} {t : Tc} (R : Run S l S') (R1 : Run S (l.take j) S1) (e : l[j]? = some t) : AtT S1 t ∧ Run S (l.take (j + 1)) (turnS S1 t.k) := by
  have jl := (List.getElem?_eq_some_iff.mp e).1
  have el : l = l.take j ++ t :: l.drop (j + 1) := by
    have q := (List.take_append_drop j l).symm
    rw [List.drop_eq_getElem_cons jl] at q
    rw [List.getElem?_eq_getElem jl] at e
    cases e
    exact q
  rw [el] at R
  obtain ⟨T, r1, r2, r3⟩ := Run.app.mp R
  have := R1.det r1
  subst this
  refine ⟨r2, ?_⟩
  rw [List.take_add_one, e]
  exact Run.app.mpr ⟨S1, R1, r2, rfl⟩
theorem run_ts : ∀ {l : List Tc} {S S' : WkS}, Run S l S' → S'.ts = S.ts ++ l.map fun t => (t.k : Int)
  | [], S, S', h => by have h : S' = S := h; rw [h]; simp
  | t :: l, S, S', ⟨a, h⟩ => by
    rw [run_ts h]
    obtain ⟨s, _, _, e⟩ := a.turn
    rw [e]
    simp
theorem run_hl : ∀ {l : List Tc} {S S' : WkS}, Run S l S' → S'.hs.length = S.hs.length ∧ S'.m = S.m
  | [], S, S', h => by have h : S' = S := h; rw [h]; exact ⟨rfl, rfl⟩
  | t :: l, S, S', ⟨a, h⟩ => by
    rw [(run_hl h).1, (run_hl h).2]
    obtain ⟨s, _, _, e⟩ := a.turn
    rw [e]
    simp
theorem run_k : ∀ {l : List Tc} {S S' : WkS}, Run S l S' → ∀ t ∈ l, t.k < S.hs.length
  | [], S, S', h, t, ht => by cases ht
  | x :: l, S, S', ⟨a, h⟩, t, ht => by
    obtain ⟨s, es, _⟩ := id a
    rcases List.mem_cons.mp ht with rfl | ht
    · exact (List.getElem?_eq_some_iff.mp es).1
    · have := run_k h t ht
      obtain ⟨s, _, _, e⟩ := a.turn
      rw [e] at this
      simpa using this
/-- tags for a works made beside all that stands: c for what stands -/
def aside (c : Nat) (H : Hp) : Tg := fun x => if (H x).isSome then [c] else []
theorem aside_un (c : Nat) (H : Hp) : Unt (aside c H) H := fun x e => by unfold aside; rw [e]; rfl
theorem aside_at {c : Nat} {H : Hp} {x : Addr} {o : HO} (e : H x = some o) : aside c H x = [c] := by unfold aside; rw [e]; rfl
def kOf (l : List Tc) : List V := l.map fun t => V.int (t.k : Int)
theorem kOf_len (l : List Tc) : (kOf l).length = l.length := List.length_map _

/-! the touches of each hand -/
def ofH (l : List Tc) (h : Nat) : List Tc := l.filter fun t => t.k == h
structure RwT (H : Hp) (D : Addr) (as : List Addr) (l : List Tc) : Prop where
  d : H D = some (.lst (as.map V.ref))
  r : ∀ (h : Nat) (q : Addr), as[h]? = some q → ∃ refs, H q = some (.lst refs) ∧ Dats H refs ((ofH l h).map tcD)
theorem imms_tc (l : List Tc) : imms (l.map tcD) = true := imms_map tcD imm_tc l
theorem RwT.keep {H H' : Hp} {D : Addr} {as : List Addr} {l : List Tc} (h : RwT H D as l) (k : ∀ x o, H x = some o → (x = D ∨ x ∈ as) → H' x = some o) (t : ∀ x xs, H x = some (.tup xs) → H' x = some (.tup xs)) : RwT H' D as l :=
  ⟨k _ _ h.d (.inl rfl), fun n q e => by
    obtain ⟨refs, e1, d1⟩ := h.r n q e
    exact ⟨refs, k _ _ e1 (.inr (List.mem_of_getElem? e)), d1.keep t _ (imms_tc _)⟩⟩
theorem RwT.same {H H' : Hp} {D : Addr} {as : List Addr} {l : List Tc} (h : RwT H D as l) (k : Same H H') : RwT H' D as l := h.keep (fun x o e _ => k _ _ e) k.tups
def rowsTD (l : List Tc) (n : Nat) : PyData := .list ((List.range n).map fun h => .list ((ofH l h).map tcD))
theorem RwT.dat {H : Hp} {D : Addr} {as : List Addr} {l : List Tc} (h : RwT H D as l) : Dat H (.ref D) (rowsTD l as.length) := by
  unfold rowsTD
  simp only [Dat]
  refine ⟨D, _, rfl, h.d, ?_⟩
  have gen : ∀ n, n ≤ as.length → Dats H ((as.take n).map V.ref) ((List.range n).map fun h => PyData.list ((ofH l h).map tcD)) := by
    intro n
    induction n with
    | zero => intro _; simp [Dats]
    | succ n ih =>
      intro hn
      obtain ⟨refs, e1, d1⟩ := h.r n as[n] (by simp)
      rw [List.take_add_one, List.range_succ, List.map_append, List.map_append, List.getElem?_eq_getElem (by omega)]
      refine dats_snoc (ih (by omega)) ?_
      simp only [Dat]
      exact ⟨_, refs, rfl, e1, d1⟩
  have := gen as.length (Nat.le_refl _)
  rwa [List.take_length] at this
theorem ofH_snoc (l : List Tc) (t : Tc) (h : Nat) : ofH (l ++ [t]) h = ofH l h ++ (if t.k = h then [t] else []) := by
  unfold ofH
  rw [List.filter_append]
  congr 1
  by_cases e : t.k = h <;> simp [e]

/-! which wait -/
def waitB (hs : List HandS) (k : Nat) : Bool := match hs[k]? with
  | some s => decide (s.st = "waits")
  | none => false
def waitL (hs : List HandS) : List Nat := (List.range hs.length).filter (waitB hs)
theorem fm_fil {α : Type} (p : Nat → Bool) (f : Nat → α) (n : Nat) : (List.range n).filterMap (fun i => if p i then some (f i) else none) = ((List.range n).filter p).map f := by
  induction n with
  | zero => rfl
  | succ n ih =>
    rw [fm_succ, ih, List.range_succ, List.filter_append, List.map_append]
    congr 1
    cases h : p n <;> simp [h]
theorem waitL_get {hs : List HandS} {z k : Nat} (h : (waitL hs)[z]? = some k) : ∃ s, hs[k]? = some s ∧ s.st = "waits" := by
  have m := List.mem_of_getElem? h
  have := (List.mem_filter.mp m).2
  unfold waitB at this
  cases e : hs[k]? with
  | none => rw [e] at this; cases this
  | some s => rw [e] at this; exact ⟨s, rfl, of_decide_eq_true this⟩

/-! ### runs along any numbers, which may stop -/
def kI (l : List Tc) : List Int := l.map fun t => (t.k : Int)
theorem kI_len (l : List Tc) : (kI l).length = l.length := List.length_map _
theorem kOf_kI (l : List Tc) : kOf l = (kI l).map V.int := by unfold kOf kI; rw [List.map_map]; rfl
/-- none: at the end; true: at a number that is no hand's; false: at a hand that is over -/
def StopAt (S1 : WkS) : Option Bool → List Int → Prop
  | none, [] => True
  | some true, h :: _ => ¬ inP h S1.hs.length
  | some false, h :: _ => ∃ (k : Nat) (s : HandS), h = (k : Int) ∧ S1.hs[k]? = some s ∧ s.st ≠ "waits"
  | _, _ => False
def Wk (S : WkS) (os : List Int) (l : List Tc) (st : Option Bool) : Prop := ∃ S1 rest, Run S l S1 ∧ os = kI l ++ rest ∧ StopAt S1 st rest
theorem turn_hok {S : WkS} (k : Nat) (ok : ∀ s ∈ S.hs, HOk s) : ∀ s ∈ (turnS S k).hs, HOk s := by
  unfold turnS
  cases e : S.hs[k]? with
  | none => exact ok
  | some s =>
    dsimp only
    cases e2 : s.rws[s.pos]? with
    | none => exact ok
    | some r =>
      intro t ht
      rcases List.mem_or_eq_of_mem_set ht with h | rfl
      · exact ok t h
      · exact led_ok _ _
theorem beg_hok (m : Nat) (ns : List Int) (rws : List (List Rw)) : ∀ s ∈ (begS m ns rws).hs, HOk s := fun s hs => by
  obtain ⟨x, _, rfl⟩ := List.mem_map.mp hs
  exact led_ok _ _
theorem wk_ex : ∀ (os : List Int) (S : WkS), (∀ s ∈ S.hs, HOk s) → ∃ l st, Wk S os l st
  | [], S, _ => ⟨[], none, S, [], rfl, rfl, trivial⟩
  | h :: os, S, ok => by
    by_cases inn : inP h S.hs.length
    · obtain ⟨k, rfl⟩ := Int.eq_ofNat_of_zero_le inn.1
      have kl : k < S.hs.length := by have := inn.2; omega
      have es : S.hs[k]? = some S.hs[k] := by simp [kl]
      by_cases w : S.hs[k].st = "waits"
      · obtain ⟨r, er, _⟩ := ok _ (List.mem_of_getElem? es) w
        obtain ⟨l, st, S1, rest, R, e, q⟩ := wk_ex os (turnS S k) (turn_hok k ok)
        exact ⟨⟨k, r, readR S.ns r, writR S.hs[k].bs r⟩ :: l, st, S1, rest, ⟨⟨_, es, w, er, rfl, rfl⟩, R⟩, by rw [e]; rfl, q⟩
      · exact ⟨[], some false, S, _, rfl, rfl, k, _, rfl, es, w⟩
    · exact ⟨[], some true, S, _, rfl, rfl, inn⟩
theorem Wk.len {S : WkS} {os : List Int} {l : List Tc} {st : Option Bool} (h : Wk S os l st) : l.length ≤ os.length := by
  obtain ⟨_, rest, _, e, _⟩ := h
  rw [e, List.length_append, kI_len]
  omega
theorem turn_runE {CW CH CN CO : Addr} {i : Nat} {τ : Tg} {H : Hp} {W : WAd} {S : WkS} {t : Tc} {Q : VK} {E : XK} (w : WAt CW CH i τ H W S) (tl : S.ts.length ≤ 10000) (a : AtT S t)
    (go : ∀ (p : Addr) (H' : Hp), H p = none → H' p = some (.tup (tcV t)) → WAt CW CH i τ H' W (turnS S t.k) → Stp i τ H H' → Q (.ref p) H') : spTurn CW CH CN CO K [.ref W.o, .int t.k] H Q E := by
  obtain ⟨s, es, ws, er, e1, e2⟩ := a
  have kl := (List.getElem?_eq_some_iff.mp es).1
  have inn : inP (t.k : Int) S.hs.length := ⟨by omega, by omega⟩
  have one : ∀ (k' : Nat) (t' : HandS), (t.k : Int) = k' → S.hs[k']? = some t' → t' = s ∧ k' = t.k := fun k' t' e1 e2 => by
    have : k' = t.k := by omega
    subst this
    rw [es] at e2
    exact ⟨(Option.some.inj e2).symm, rfl⟩
  refine ⟨i, τ, W, S, _, rfl, w, tl, fun k' t' r' tt Hk q1 q2 wt' er' tr' tf tk wk stk => ?_, fun z => absurd inn z, fun k' t' e1 e2 z => absurd (by rw [(one k' t' e1 e2).1]; exact ws) z⟩
  obtain ⟨rfl, rfl⟩ := one k' t' q1 q2
  rw [er] at er'
  cases er'
  refine go tt Hk tf ?_ wk stk
  rw [tk]
  unfold tcV touchV
  rw [e1, e2]
/-- a turn at which the run stops -/
theorem turn_stop {CW CH CN CO : Addr} {i : Nat} {τ : Tg} {H : Hp} {W : WAd} {S : WkS} {h : Int} {Q : VK} {E : XK} {b : Bool} {rest : List Int} (w : WAt CW CH i τ H W S) (tl : S.ts.length ≤ 10000) (q : StopAt S (some b) (h :: rest))
    (no : b = true → E (.ref CN) none H) (ov : b = false → E (.ref CO) none H) : spTurn CW CH CN CO K [.ref W.o, .int h] H Q E := by
  refine ⟨i, τ, W, S, _, rfl, w, tl, fun k' t' r' tt Hk q1 q2 wt' _ _ _ _ _ _ => ?_, fun z => ?_, fun k' t' e1 e2 z => ?_⟩
  · cases b with
    | true => exact absurd ⟨by omega, by have := (List.getElem?_eq_some_iff.mp q2).1; omega⟩ (show ¬ inP h S.hs.length from q)
    | false =>
      obtain ⟨k, s, e, es, nw⟩ := q
      have : k = k' := by omega
      subst this
      rw [es] at q2
      cases q2
      exact absurd wt' nw
  · cases b with
    | true => exact no rfl
    | false =>
      obtain ⟨k, s, e, es, nw⟩ := q
      exact absurd ⟨by omega, by have := (List.getElem?_eq_some_iff.mp es).1; omega⟩ z
  · cases b with
    | true => exact absurd ⟨by omega, by have := (List.getElem?_eq_some_iff.mp e2).1; omega⟩ (show ¬ inP h S.hs.length from q)
    | false => exact ov rfl
theorem made_wkX {CW CH CN : Addr} {i : Nat} {τ : Tg} {H : Hp} {p L : Addr} {rs : List Addr} {rws : List (List Rw)} {m : Nat} {nv : V} {ns : List Int} {Q : Addr → Hp → Prop} {E : XK} (g : PgH H p L rs rws m) (n8 : rws.length ≤ 100) (m20 : m ≤ 100) (un : Unt τ H) (i0 : i ≠ 0) (nl : ns.length ≤ 100) (hv : (nv = .non ∧ ns = List.replicate m 0) ∨ ∃ cl, nv = .ref cl ∧ H cl = some (.lst (ns.map V.int)))
    (go : numOkL m ns → ∀ (τ' : Tg) (W : WAd) (H' : Hp), WAt CW CH i τ' H' W (begS m ns rws) → (∀ x u, H x = some u → τ' x = τ x) → Same H H' → Q W.o H') (bad : ¬ numOkL m ns → ∀ H', Same H H' → E (.ref CN) none H') (o dx : Addr) (ho : H o = none) (hdx : H dx = none) (ndx : dx ≠ o) :
    spWInit CW CH CN K (.ref o :: ([.ref p, nv] ++ [])) (upd (upd H dx (.own o)) o (.ins CW dx [])) (fun v H' => v = .non ∧ Q o H') E := by
  have ho' : (upd H dx (.own o)) o = none := by rw [upd_ne ndx.symm]; exact ho
  have sm : Same H (upd (upd H dx (.own o)) o (.ins CW dx [])) := (same_new hdx).trans (same_new ho')
  refine ⟨i, τ, o, dx, p, L, rs, m, nv, ns, rws, rfl, upd_same, sm _ _ g.ep, sm _ _ g.eL, g.len, fun kk q' x h1 h2 => (g.row kk q' x h1 h2).same sm, n8, m20, un.same sm, i0, nl, ?_, fun good τ5 W H5 eo w5 tg kp => ⟨rfl, ?_⟩, fun z H' kp => bad z H' fun x u e => kp _ _ (sm _ _ e) (ne_of_none e ho)⟩
  · rcases hv with h | ⟨cl, e, h⟩
    · exact .inl h
    · exact .inr ⟨cl, e, sm _ _ h⟩
  · rw [← eo]
    exact go good τ5 W H5 w5 (fun x u e => tg x u (sm _ _ e) (ne_of_none e ho)) (fun x u e => kp _ _ (sm _ _ e) (ne_of_none e ho))
/-- the numbers that are handed over, good or not -/
def NumA (H : Hp) (m : Nat) (nv : V) (ns : List Int) : Prop := ns.length ≤ 100 ∧ ((nv = .non ∧ ns = List.replicate m 0) ∨ ∃ cl, nv = .ref cl ∧ H cl = some (.lst (ns.map V.int)))
/-- along l, then: what comes next -/
theorem os_at {os : List Int} {l : List Tc} {rest : List Int} {j : Nat} {h : Int} (e : os = kI l ++ rest) (jl : j ≤ l.length) (hj : os[j]? = some h) : (∃ t, l[j]? = some t ∧ h = (t.k : Int)) ∨ (j = l.length ∧ ∃ r', rest = h :: r') := by
  subst e
  rcases Nat.lt_or_eq_of_le jl with q | q
  · rw [List.getElem?_append_left (by rw [kI_len]; exact q)] at hj
    unfold kI at hj
    rw [List.getElem?_map, List.getElem?_eq_getElem q] at hj
    exact .inl ⟨_, List.getElem?_eq_getElem q, (Option.some.inj hj).symm⟩
  · subst q
    rw [List.getElem?_append_right (by rw [kI_len]; omega), kI_len, Nat.sub_self] at hj
    cases rest with
    | nil => cases hj
    | cons x r => cases hj; exact .inr ⟨rfl, r, rfl⟩
theorem ints_get {os : List Int} {j : Nat} {v : V} (h : (os.map V.int)[j]? = some v) : ∃ x, os[j]? = some x ∧ v = .int x := by
  rw [List.getElem?_map] at h
  cases e : os[j]? with
  | none => rw [e] at h; cases h
  | some x => rw [e] at h; exact ⟨x, rfl, (Option.some.inj h).symm⟩
def spWebX (CW CH CN CNo CO : Addr) (K : PySem.W.Frag) : Sp := fun vs H Q E => ∃ (p L : Addr) (rs : List Addr) (rws : List (List Rw)) (m : Nat) (nv : V) (ns : List Int) (o : Addr) (os : List Int), vs = [.ref p, .ref o, nv] ∧ PgH H p L rs rws m ∧ rws.length ≤ 8 ∧ m ≤ 20 ∧ NumA H m nv ns ∧ H o = some (.lst (os.map V.int)) ∧ os.length ≤ 400 ∧
  (¬ numOkL m ns → ∀ H', Same H H' → E (.ref CN) none H') ∧ (numOkL m ns → ∃ l st, Wk (begS m ns rws) os l st ∧ (st = none → ∀ (a : Addr) (H' : Hp), H a = none → WebAt H' a (l.map webT) → Same H H' → Q (.ref a) H') ∧ (st = some true → ∀ H', Same H H' → E (.ref CNo) none H') ∧ (st = some false → ∀ H', Same H H' → E (.ref CO) none H'))
theorem ok_webX {C_Works C_Hand C_NoNumber C_NoHand C_Over : Addr} {f : Addr} {fd : FuncData} (F : FunD K "web_of" "web_of" s_web_of [.none] f fd) (N_Works : MakeAtX P w K mg base 7 C_Works "Works" ["self", "program", "cells"] [] (spWInit C_Works C_Hand C_NoNumber K)) (M_Works_turn : MethAtX P w K mg base 7 C_Works "turn" ["self", "hand"] (spTurn C_Works C_Hand C_NoHand C_Over K)) (Z_Works : Cl_Works K C_Works) : FnOk P w K mg base (CX1 P w) 9 f fd ["program", "order", "cells"] (spWebX C_Works C_Hand C_NoNumber C_NoHand C_Over K) := by
  refine F.okX sc_web_of (fun vs H Q E h => ?_) (fun cdv A outer s H vs Q E hr h hR => ?_)
  · obtain ⟨p, L, rs, rws, m, nv, ns, o, os, rfl, _⟩ := h
    rfl
  · obtain ⟨p, L, rs, rws, m, nv, ns, o, os, rfl, g, r8, m20, ⟨nl, hv⟩, ho, ol, kb, kg⟩ := h
    refine ⟨_, (pss_cons (ps_set (i := 3) sc_web_of.nd rfl (Or.inl rfl) (pe_makeX N_Works rfl hR (hr.mono (by decide)) (by rfl) (pa_cons (pv 0) (pa_cons (pv 2) pa_nil))))
      (pss_cons (ps_set (i := 4) sc_web_of.nd rfl (Or.inl rfl) (pe_lst pa_nil))
      (pss_cons (ps_for PassesOwn.leaving rfl (pi_listK (K := K) rfl (pv 1)) (pg_name (i := 5) sc_web_of.nd rfl (Or.inl rfl))
      (pss_cons (ps_set (i := 6) sc_web_of.nd rfl (Or.inl rfl) (pe_methX M_Works_turn Z_Works.cls rfl hR (hr.mono (by decide)) (pv 3) (pa_cons (pv 5) pa_nil)))
      (pss_one (ps_expr (pe_appendK (K := K) rfl (pv 4) (pa_cons (pe_tup (pa_cons (pv 5) (pa_cons (pe_ix (ix_tupK (K := K) rfl) (pv 6) pe_int (fun _ _ => rfl)) (pa_cons (pe_ix (ix_tupK (K := K) rfl) (pv 6) pe_int (fun _ _ => rfl)) pa_nil)))) pa_nil))))))
      (pss_one (ps_ret (pv 4)))))), ?_⟩
    refine ⟨_, rfl, _, rfl, ?_⟩
    dsimp only [tNil]
    refine (made_wkX (i := 2) (τ := aside 1 H) g (by omega) (by omega) (aside_un _ _) (by decide) nl hv (fun good τ1 W H1 w1 tg1 s1 => ?_) kb)
    have tg1 : ∀ x u, H x = some u → τ1 x = [1] := fun x u e => by rw [tg1 x u e]; exact aside_at e
    obtain ⟨l, st, ⟨Se, rest, R, eos, stp⟩, k1, k2, k3⟩ := kg good
    have ll : l.length ≤ os.length := by rw [eos, List.length_append, kI_len]; omega
    refine ⟨(by show 0 ≤ sizeLine; decide), fun a ha => ?_⟩
    have sa := same_new (o := HO.lst []) ha
    have ta : τ1 a = [] := w1.un a ha
    have ha0 : H a = none := s1.free ha
    refine ⟨_, rfl, o, rfl, ⟨_, SqL.of (sa _ _ (s1 _ _ ho))⟩, ?_⟩
    refine for_list (K := K) (a := o) (xs := os.map V.int) (fun j σ Hc => ∃ (x1 x2 : Option V) (S1 : WkS) (refs : List V), σ = [some (.ref p), some (.ref o), some nv, some (.ref W.o), some (.ref a), x1, x2] ∧ j ≤ l.length ∧ WAt C_Works C_Hand 2 τ1 Hc W S1 ∧ Run (begS m ns rws) (l.take j) S1 ∧ Hc a = some (.lst refs) ∧ Dats Hc refs (((l.take j).map webT).map tD) ∧ Same H Hc)
      ⟨none, none, _, [], rfl, Nat.zero_le _, w1.same sa, by rw [List.take_zero]; rfl, upd_same, by simp [Dats], s1.trans sa⟩ (fun j σ Hc _ ⟨_, _, _, _, _, _, _, _, _, _, sc⟩ => SqL.of (sc _ _ ho)) ?_ ?_
    · rintro j v σ Hc hj ⟨x1, x2, S1, refs, rfl, jl, wc, R1, eac, dc, sc⟩
      obtain ⟨h, eh, rfl⟩ := ints_get hj
      have tl : S1.ts.length ≤ 10000 := by rw [run_ts R1]; show ([] ++ _).length ≤ _; simp; omega
      refine ⟨_, rfl, W.o, W.dx, _, rfl, wc.o, rfl, _, rfl, ?_⟩
      dsimp only [tNil]
      rcases os_at eos jl eh with ⟨t, et, rfl⟩ | ⟨rfl, r', er⟩
      · have jl := (List.getElem?_eq_some_iff.mp et).1
        obtain ⟨at1, R2⟩ := run_at R R1 et
        refine turn_runE wc tl at1 fun q Hd hq eq wd st => ?_
        have ead := st.keep _ _ eac (by rw [ta]; simp)
        refine ⟨_, rfl, .inl ⟨rfl, _, SqL.of ead⟩, _, rfl, _, rfl, _, _, _, _, rfl, rfl, SqT.of eq, rfl, _, rfl, _, _, _, _, rfl, rfl, SqT.of eq, rfl, (by show 3 ≤ sizeLine; decide), fun u hu => ?_⟩
        have su := same_new (o := HO.tup [V.int (t.k : Int), V.str (wordR t.r), V.int (cellR t.r)]) hu
        have eau := su _ _ ead
        have eu : (upd Hd u (.tup [V.int (t.k : Int), V.str (wordR t.r), V.int (cellR t.r)])) u = some (.tup [V.int (t.k : Int), V.str (wordR t.r), V.int (cellR t.r)]) := upd_same
        have wu := wd.same su
        have du := (dc.keep (fun x xs e => su _ _ (st.tup _ _ e)) _ (imms_map tD imm_tD _))
        have scu : Same H (upd Hd u (.tup [V.int (t.k : Int), V.str (wordR t.r), V.int (cellR t.r)])) := fun x o' e => su _ _ (st.keep _ _ (sc _ _ e) (by rw [tg1 x o' e]; simp))
        generalize (upd Hd u (.tup [V.int (t.k : Int), V.str (wordR t.r), V.int (cellR t.r)])) = He at eau eu wu du scu ⊢
        have rl : refs.length = j := by rw [dc.length, List.length_map, List.length_map, List.length_take]; omega
        refine ⟨_, _, _, rfl, rfl, eau, (by rw [rl, sizeLine_eq]; omega), ?_⟩
        have kk : Kp a He (upd He a (.lst (refs ++ [V.ref u]))) := Kp.set
        have tu : ∀ x ys, He x = some (.tup ys) → (upd He a (.lst (refs ++ [V.ref u]))) x = some (.tup ys) := kk.tups eau
        refine ⟨_, _, _, refs ++ [.ref u], rfl, jl, wu.kp kk eau (by intro xs z; cases z) ta ⟨_, upd_same⟩, R2, upd_same, ?_, fun x o' e => kk _ _ (scu _ _ e) (ne_of_none e ha0)⟩
        rw [List.take_add_one, et]
        show Dats _ _ ((((l.take j) ++ [t]).map webT).map tD)
        rw [List.map_append, List.map_append]
        exact dats_snoc (du.keep tu _ (imms_map tD imm_tD _)) (dat_tch (x := webT t) (tu _ _ eu))
      · rw [List.take_length] at R1
        have := R1.det R
        subst this
        subst er
        cases st with
        | none => exact stp.elim
        | some b => exact turn_stop wc tl stp (fun e => k2 (by rw [e]) _ sc) (fun e => k3 (by rw [e]) _ sc)
    · rintro σ Hc ⟨x1, x2, S1, refs, rfl, jl, wc, R1, eac, dc, sc⟩
      rw [List.length_map] at jl dc
      have el : os.length = l.length := by omega
      have er : rest = [] := by
        rw [eos, List.length_append, kI_len] at el
        exact List.eq_nil_of_length_eq_zero (by omega)
      subst er
      have es : st = none := by
        cases st with
        | none => rfl
        | some b => cases b <;> exact stp.elim
      rw [el, List.take_length] at dc
      exact ⟨_, rfl, k1 es a Hc ha0 ⟨refs, eac, dc⟩ sc⟩

def spTouchesX (CW CH CN CNo CO : Addr) (K : PySem.W.Frag) : Sp := fun vs H Q E => ∃ (p L : Addr) (rs : List Addr) (rws : List (List Rw)) (m : Nat) (nv : V) (ns : List Int) (o : Addr) (os : List Int), vs = [.ref p, .ref o, nv] ∧ PgH H p L rs rws m ∧ rws.length ≤ 8 ∧ m ≤ 20 ∧ NumA H m nv ns ∧ H o = some (.lst (os.map V.int)) ∧ os.length ≤ 400 ∧
  (¬ numOkL m ns → ∀ H', Same H H' → E (.ref CN) none H') ∧ (numOkL m ns → ∃ l st, Wk (begS m ns rws) os l st ∧ (st = none → ∀ (D : Addr) (as : List Addr) (H' : Hp), H D = none → (∀ q ∈ as, H q = none ∧ q ≠ D) → as.Nodup → as.length = rws.length → RwT H' D as l → Same H H' → Q (.ref D) H') ∧ (st = some true → ∀ H', Same H H' → E (.ref CNo) none H') ∧ (st = some false → ∀ H', Same H H' → E (.ref CO) none H'))
theorem ok_touchesX {C_Works C_Hand C_NoNumber C_NoHand C_Over : Addr} {f : Addr} {fd : FuncData} (F : FunD K "touches_of" "touches_of" s_touches_of [.none] f fd) (N_Works : MakeAtX P w K mg base 7 C_Works "Works" ["self", "program", "cells"] [] (spWInit C_Works C_Hand C_NoNumber K)) (M_Works_turn : MethAtX P w K mg base 7 C_Works "turn" ["self", "hand"] (spTurn C_Works C_Hand C_NoHand C_Over K)) (Z_Works : Cl_Works K C_Works) : FnOk P w K mg base (CX1 P w) 9 f fd ["program", "order", "cells"] (spTouchesX C_Works C_Hand C_NoNumber C_NoHand C_Over K) := by
  refine F.okX sc_touches_of (fun vs H Q E h => ?_) (fun cdv A outer s H vs Q E hr h hR => ?_)
  · obtain ⟨p, L, rs, rws, m, nv, ns, o, os, rfl, _⟩ := h
    rfl
  · obtain ⟨p, L, rs, rws, m, nv, ns, o, os, rfl, g, r8, m20, ⟨nl, hv⟩, ho, ol, kb, kg⟩ := h
    refine ⟨_, (pss_cons (ps_set (i := 3) sc_touches_of.nd rfl (Or.inl rfl) (pe_makeX N_Works rfl hR (hr.mono (by decide)) (by rfl) (pa_cons (pv 0) (pa_cons (pv 2) pa_nil))))
      (pss_cons (ps_setC (i := 4) rfl sc_touches_of.nd rfl (Or.inl rfl) (N := ["rows"]) (own := ["rows"]) (caps := []) (CompScope.of (by kernel_rfl)) (pi_listK (K := K) rfl (pe_ix (ix_tupK (K := K) rfl) (pv 0) pe_int (fun _ _ => rfl))) (fun _ _ _ _ => (pg_name (i := 0) (show List.Nodup (["rows"] : List Str) by decide +kernel) rfl (Or.inl rfl))) (fun _ _ _ _ => pts_nil) (fun _ _ _ _ => (pe_lst pa_nil)))
      (pss_cons (ps_for PassesOwn.leaving rfl (pi_listK (K := K) rfl (pv 1)) (pg_name (i := 5) sc_touches_of.nd rfl (Or.inl rfl))
      (pss_cons (ps_set (i := 6) sc_touches_of.nd rfl (Or.inl rfl) (pe_methX M_Works_turn Z_Works.cls rfl hR (hr.mono (by decide)) (pv 3) (pa_cons (pv 5) pa_nil)))
      (pss_one (ps_expr (pe_appendK (K := K) rfl (pe_ix (ix_listK (K := K) rfl) (pv 4) (pv 5) (fun _ _ => rfl)) (pa_cons (pv 6) pa_nil))))))
      (pss_one (ps_ret (pv 4)))))), ?_⟩
    refine ⟨_, rfl, _, rfl, ?_⟩
    dsimp only [tNil]
    refine (made_wkX (i := 2) (τ := aside 1 H) g (by omega) (by omega) (aside_un _ _) (by decide) nl hv (fun good τ1 W H1 w1 tg1 s1 => ?_) kb)
    have tg1 : ∀ x u, H x = some u → τ1 x = [1] := fun x u e => by rw [tg1 x u e]; exact aside_at e
    obtain ⟨l, st, ⟨Se, rest, R, eos, stp⟩, k1, k2, k3⟩ := kg good
    have ll : l.length ≤ os.length := by rw [eos, List.length_append, kI_len]; omega
    refine ⟨_, rfl, _, _, _, _, rfl, rfl, SqT.of (s1 _ _ g.ep), rfl, L, rfl, ⟨_, SqL.of (s1 _ _ g.eL)⟩, fun D hD => ?_⟩
    have tD : τ1 D = [] := w1.un D hD
    refine comp_list (K := K) (a := L) (xs := rs.map V.ref) (fun i σ Hd => ∃ (v : Option V) (as : List Addr), σ = [v] ∧ Hd D = some (.lst (as.map V.ref)) ∧ as.length = i ∧ as.Nodup ∧ (∀ a ∈ as, H1 a = none ∧ a ≠ D ∧ Hd a = some (.lst [])) ∧ Same H1 Hd)
      ⟨none, [], rfl, upd_same, rfl, List.nodup_nil, by simp, same_new hD⟩ (fun i σ Hd _ ⟨_, _, _, _, _, _, _, sm⟩ => SqL.of (sm _ _ (s1 _ _ g.eL))) ?_ ?_
    · rintro i x σ Hd hi ⟨v, as, rfl, hDd, la, nd, al, sm⟩
      dsimp only [gName, tAll]
      rw [if_pos rfl]
      have il : i < rs.length := by have := (List.getElem?_eq_some_iff.mp hi).1; rwa [List.length_map] at this
      refine ⟨(by show 0 ≤ sizeLine; decide), fun q hq => ⟨as.map V.ref, ?_, ?_, _, as ++ [q], rfl, ?_, by simp [la], ?_, ?_, ?_⟩⟩
      · exact same_new hq _ _ hDd
      · rw [List.length_map, la, sizeLine_eq]; have := g.len; omega
      · rw [upd_same, List.map_append]; rfl
      · refine List.nodup_append.mpr ⟨nd, by simp, fun a ha b hb e => ?_⟩
        rw [List.mem_singleton.mp hb] at e
        have := (al a ha).2.2
        rw [e, hq] at this
        cases this
      · intro a ha
        rcases List.mem_append.mp ha with ha | ha
        · obtain ⟨h1, h2, h3⟩ := al a ha
          exact ⟨h1, h2, by rw [upd_ne h2]; exact same_new hq _ _ h3⟩
        · rw [List.mem_singleton.mp ha]
          have nq : q ≠ D := fun e => by rw [e, hDd] at hq; cases hq
          exact ⟨sm.free hq, nq, by rw [upd_ne nq, upd_same]⟩
      · intro x u e
        rw [upd_ne (ne_of_none e hD)]
        exact same_new hq _ _ (sm _ _ e)
    rintro σ H2 ⟨v, as, rfl, hD2, la, nd, al, sm⟩
    rw [List.length_map, g.len] at la
    have s2 := s1.trans sm
    have w2 := w1.same sm
    have hD0 : H D = none := s1.free hD
    refine ⟨_, rfl, o, rfl, ⟨_, SqL.of (s2 _ _ ho)⟩, ?_⟩
    refine for_list (K := K) (a := o) (xs := os.map V.int) (fun j σ Hc => ∃ (x1 x2 : Option V) (S1 : WkS), σ = [some (.ref p), some (.ref o), some nv, some (.ref W.o), some (.ref D), x1, x2] ∧ j ≤ l.length ∧ WAt C_Works C_Hand 2 τ1 Hc W S1 ∧ Run (begS m ns rws) (l.take j) S1 ∧ RwT Hc D as (l.take j) ∧ Same H Hc)
      ⟨none, none, _, rfl, Nat.zero_le _, w2, by rw [List.take_zero]; rfl, ⟨hD2, fun h q e => ⟨[], (al q (List.mem_of_getElem? e)).2.2, by rw [List.take_zero]; simp [ofH, Dats]⟩⟩, s2⟩ (fun j σ Hc _ ⟨_, _, _, _, _, _, _, _, sc⟩ => SqL.of (sc _ _ ho)) ?_ ?_
    · rintro j v σ Hc hj ⟨x1, x2, S1, rfl, jl, wc, R1, rc, sc⟩
      obtain ⟨h, eh, rfl⟩ := ints_get hj
      have tl : S1.ts.length ≤ 10000 := by rw [run_ts R1]; show ([] ++ _).length ≤ _; simp; omega
      refine ⟨_, rfl, W.o, W.dx, _, rfl, wc.o, rfl, _, rfl, ?_⟩
      dsimp only [tNil]
      rcases os_at eos jl eh with ⟨t, et, rfl⟩ | ⟨rfl, r', er⟩
      · have jl := (List.getElem?_eq_some_iff.mp et).1
        obtain ⟨at1, R2⟩ := run_at R R1 et
        refine turn_runE wc tl at1 fun u Hd hu eu wd st => ?_
        have rd : RwT Hd D as (l.take j) := rc.keep (fun x o' e h => st.keep _ _ e (by
          rcases h with rfl | h
          · rw [tD]; simp
          · rw [w1.un x (al x h).1]; simp)) st.tup
        have sd : Same H Hd := fun x o' e => st.keep _ _ (sc _ _ e) (by rw [tg1 x o' e]; simp)
        have kl : t.k < as.length := by
          have := run_k R t (List.mem_of_getElem? et)
          rw [la]
          have e : (begS m ns rws).hs.length = rws.length := by show (rws.map _).length = _; rw [List.length_map]
          rwa [e] at this
        obtain ⟨q, eq⟩ : ∃ q, as[t.k]? = some q := ⟨_, List.getElem?_eq_getElem kl⟩
        obtain ⟨refs, e1, d1⟩ := rd.r t.k q eq
        have mq := List.mem_of_getElem? eq
        obtain ⟨hq1, hqD, _⟩ := al q mq
        refine ⟨_, rfl, _, rfl, _, _, _, _, rfl, rfl, SqL.of rd.d, atI_nat (j := t.k) (v := V.ref q) (by rw [List.getElem?_map, eq]; rfl), .inl ⟨rfl, _, SqL.of e1⟩, _, rfl, q, _, _, rfl, rfl, e1, ?_, ?_⟩
        · rw [d1.length, List.length_map, sizeLine_eq]
          have := List.length_filter_le (fun t' : Tc => t'.k == t.k) (l.take j)
          rw [List.length_take] at this
          unfold ofH
          omega
        have kk : Kp q Hd (upd Hd q (.lst (refs ++ [V.ref u]))) := Kp.set
        have tu : ∀ x ys, Hd x = some (.tup ys) → (upd Hd q (.lst (refs ++ [V.ref u]))) x = some (.tup ys) := kk.tups e1
        have tq : τ1 q = [] := w1.un q hq1
        refine ⟨_, _, _, rfl, jl, wd.kp kk e1 (by intro xs z; cases z) tq ⟨_, upd_same⟩, R2, ⟨?_, fun h q' e' => ?_⟩, fun x o' e => kk _ _ (sd _ _ e) (ne_of_none e (s1.free hq1))⟩
        · rw [upd_ne hqD.symm]; exact rd.d
        · rw [List.take_add_one, et]
          show ∃ refs', _ ∧ Dats _ refs' ((ofH (l.take j ++ [t]) h).map tcD)
          rw [ofH_snoc]
          by_cases z : t.k = h
          · subst z
            rw [eq] at e'
            cases e'
            rw [if_pos rfl, List.map_append]
            exact ⟨_, upd_same, dats_snoc (d1.keep tu _ (imms_tc _)) (dat_tc (tu _ _ eu))⟩
          · rw [if_neg z, List.append_nil]
            obtain ⟨refs', e2, d2⟩ := rd.r h q' e'
            have nq : q' ≠ q := fun x => by
              subst x
              exact z ((List.getElem?_inj kl nd).mp (eq.trans e'.symm))
            exact ⟨refs', by rw [upd_ne nq]; exact e2, d2.keep tu _ (imms_tc _)⟩
      · rw [List.take_length] at R1
        have := R1.det R
        subst this
        subst er
        cases st with
        | none => exact stp.elim
        | some b => exact turn_stop wc tl stp (fun e => k2 (by rw [e]) _ sc) (fun e => k3 (by rw [e]) _ sc)
    · rintro σ Hc ⟨x1, x2, S1, rfl, jl, wc, R1, rc, sc⟩
      rw [List.length_map] at jl rc
      have el : os.length = l.length := by omega
      have er : rest = [] := by
        rw [eos, List.length_append, kI_len] at el
        exact List.eq_nil_of_length_eq_zero (by omega)
      subst er
      have es : st = none := by
        cases st with
        | none => rfl
        | some b => cases b <;> exact stp.elim
      rw [el, List.take_length] at rc
      exact ⟨_, rfl, k1 es D as Hc hD0 (fun q hq => ⟨s1.free (al q hq).1, (al q hq).2.1⟩) nd la rc sc⟩

theorem set_c {i : Nat} {v : V} {u : TS} {D : Ends} {σ : St} {H : Hp} (h : u D (σ.set i (some v)) H) : tSeq (tAsg (tC v) (gName i)) u D σ H := h
/-! ### what web_of and touches_of tell, or how they refuse -/
def wrdO (good : Bool) (st : Option Bool) : Str := match good, st with
  | false, _ => "NoNumber"
  | true, none => ""
  | true, some true => "NoHand"
  | true, some false => "Over"
theorem NumA.same {H H' : Hp} {m : Nat} {nv : V} {ns : List Int} (h : NumA H m nv ns) (k : Same H H') : NumA H' m nv ns := ⟨h.1, h.2.elim .inl fun ⟨cl, e, q⟩ => .inr ⟨cl, e, k _ _ q⟩⟩
theorem PgH.same {H H' : Hp} {p L : Addr} {rs : List Addr} {rws : List (List Rw)} {m : Nat} (g : PgH H p L rs rws m) (k : Same H H') : PgH H' p L rs rws m := ⟨k _ _ g.ep, k _ _ g.eL, g.len, fun i r x h1 h2 => (g.row i r x h1 h2).same k⟩
def Told18 (H : Hp) (m : Nat) (ns : List Int) (rws : List (List Rw)) (os : List Int) (good : Bool) (l : List Tc) (st : Option Bool) : Prop := (good = true ↔ numOkL m ns) ∧ (good = true → Wk (begS m ns rws) os l st)
def spWebTold (K : PySem.W.Frag) : Sp := fun vs H Q _ => ∃ (p L : Addr) (rs : List Addr) (rws : List (List Rw)) (m : Nat) (nv : V) (ns : List Int) (o : Addr) (os : List Int) (style : Int) (good : Bool) (l : List Tc) (st : Option Bool), vs = [.ref p, .ref o, nv, .int style] ∧ PgH H p L rs rws m ∧ rws.length ≤ 8 ∧ m ≤ 20 ∧ NumA H m nv ns ∧ H o = some (.lst (os.map V.int)) ∧ os.length ≤ 400 ∧ Told18 H m ns rws os good l st ∧
  ∀ (t : Addr) (fv : V) (H' : Hp), H' t = some (.tup [.str (wrdO good st), fv]) → Same H H' → (good = true → st = none → ∃ a, fv = .ref a ∧ WebAt H' a (l.map webT)) → (¬ (good = true ∧ st = none) → fv = .non) → Q (.ref t) H'
theorem ok_webTold {C_Works C_Hand C_NoNumber C_NoHand C_Over : Addr} (X_NoNumber : Xr K mg C_NoNumber "NoNumber") (X_NoHand : Xr K mg C_NoHand "NoHand") (X_Over : Xr K mg C_Over "Over") (Q_NoHand_NoNumber : XPair K C_NoHand C_NoNumber false) (Q_Over_NoNumber : XPair K C_Over C_NoNumber false) (Q_Over_NoHand : XPair K C_Over C_NoHand false) {f : Addr} {fd : FuncData} (F : Fun K "_law_web_told" "_law_web_told" s_Lweb_told f fd) (F_web_of : FnAtX P w K mg base 9 "web_of" ["program", "order", "cells"] (spWebX C_Works C_Hand C_NoNumber C_NoHand C_Over K)) (F_web_of1 : FnAtD P w K mg base 9 "web_of" ["program", "order", "cells"] [.non] (spWebX C_Works C_Hand C_NoNumber C_NoHand C_Over K)) (F_web_ofK : FnAtK P w K mg base 9 "web_of" ["program", "order", "cells"] "cells" (spWebX C_Works C_Hand C_NoNumber C_NoHand C_Over K)) : FnOk P w K mg base CX0 10 f fd ["program", "order", "numbers", "style"] (spWebTold K) := by
  refine F.ok sc_Lweb_told (fun vs H Q E h => ?_) (fun cdv A outer s H vs Q E hr h => ?_)
  · obtain ⟨p, L, rs, rws, m, nv, ns, o, os, style, good, l, st, rfl, _⟩ := h
    rfl
  · obtain ⟨p, L, rs, rws, m, nv, ns, o, os, style, good, l, st, rfl, g, r8, m20, na, ho, ol, ⟨tg, tw⟩, k⟩ := h
    refine ⟨_, (pss_cons (ps_set (i := 4) sc_Lweb_told.nd rfl (Or.inl rfl) pe_str)
      (pss_cons (ps_set (i := 5) sc_Lweb_told.nd rfl (Or.inl rfl) pe_non)
      (pss_cons (ps_tryN rfl rfl rfl rfl (fun _ _ _ _ hR => (pss_one (ps_if (PW.pt (pw_and (pt_cmpR op_isN (pv 2) pe_non (nomark _)) (pw_and1 (pt_cmpR op_gt (pv 3) pe_int (nomark _))))) (pss_one (ps_set (i := 5) sc_Lweb_told.nd rfl (Or.inl rfl) (pe_fnD F_web_of1 rfl hR (hr.mono (by decide)) (by rfl) (pa_cons (pv 0) (pa_cons (pv 1) pa_nil))))) (pss_one (ps_if (pt_cmpR op_eq (pv 3) pe_int (nomark _)) (pss_one (ps_set (i := 5) sc_Lweb_told.nd rfl (Or.inl rfl) (pe_fnX F_web_of rfl hR (hr.mono (by decide)) (by rfl) (pa_cons (pv 0) (pa_cons (pv 1) (pa_cons (pv 2) pa_nil)))))) (pss_one (ps_set (i := 5) sc_Lweb_told.nd rfl (Or.inl rfl) (pe_fnKw F_web_ofK rfl hR (hr.mono (by decide)) (by rfl) (pa_cons (pv 0) (pa_cons (pv 1) pa_nil)) (pv 2))))))))) (PH.cons (by rfl) X_NoNumber.bd X_NoNumber.hd (fun _ => (pss_one (ps_set (i := 4) sc_Lweb_told.nd rfl (Or.inl rfl) pe_str))) (by decide) (PH.cons (by rfl) X_NoHand.bd X_NoHand.hd (fun _ => (pss_one (ps_set (i := 4) sc_Lweb_told.nd rfl (Or.inl rfl) pe_str))) (by decide) (PH.cons (by rfl) X_Over.bd X_Over.hd (fun _ => (pss_one (ps_set (i := 4) sc_Lweb_told.nd rfl (Or.inl rfl) pe_str))) (by decide) PH.nil))))
      (pss_one (ps_ret (pe_tup (pa_cons (pv 4) (pa_cons (pv 5) pa_nil)))))))), ?_⟩
    refine set_c (set_c ?_)
    refine seq_cps (fun σ H' => ∃ (w' : Str) (fv : V), σ = [some (.ref p), some (.ref o), some nv, some (.int style), some (.str w'), some fv] ∧ w' = wrdO good st ∧ Same H H' ∧ (good = true → st = none → ∃ a, fv = .ref a ∧ WebAt H' a (l.map webT)) ∧ (¬ (good = true ∧ st = none) → fv = .non)) (fun D' hD' rt' => ?_) ?_
    · have SP : ∀ (Q1 : VK) (E1 : XK), (∀ a H', WebAt H' a (l.map webT) → Same H H' → good = true → st = none → Q1 (.ref a) H') → (good = false → ∀ H', Same H H' → E1 (.ref C_NoNumber) none H') → (good = true → st = some true → ∀ H', Same H H' → E1 (.ref C_NoHand) none H') → (good = true → st = some false → ∀ H', Same H H' → E1 (.ref C_Over) none H') → spWebX C_Works C_Hand C_NoNumber C_NoHand C_Over K [.ref p, .ref o, nv] H Q1 E1 := fun Q1 E1 k1 k2 k3 k4 =>
        ⟨p, L, rs, rws, m, nv, ns, o, os, rfl, g, r8, m20, na, ho, ol, fun z => k2 (by cases good with
          | false => rfl
          | true => exact absurd (tg.mp rfl) z), fun z => ⟨l, st, tw (tg.mpr z), fun e a H' _ W s => k1 a H' W s (tg.mpr z) e, fun e => k3 (tg.mpr z) e, fun e => k4 (tg.mpr z) e⟩⟩
      have done1 : ∀ a H', WebAt H' a (l.map webT) → Same H H' → good = true → st = none → D'.nx [some (.ref p), some (.ref o), some nv, some (.int style), some (.str ""), some (.ref a)] H' := fun a H' W s e1 e2 => hD' _ _ ⟨_, _, rfl, by rw [e1, e2]; rfl, s, fun _ _ => ⟨a, rfl, W⟩, fun z => absurd ⟨e1, e2⟩ z⟩
      have G : ∀ nv' : V, nv' = nv → spWebX C_Works C_Hand C_NoNumber C_NoHand C_Over K [.ref p, .ref o, nv'] H (fun v H1 => D'.nx [some (.ref p), some (.ref o), some nv, some (.int style), some (.str ""), some v] H1) (fun cls dx H1 => ∃ C, cls = .ref C ∧ pickH K C [(C_NoNumber, tAsg (tC (V.str "NoNumber")) (gName 4)), (C_NoHand, tAsg (tC (V.str "NoHand")) (gName 4)), (C_Over, tAsg (tC (V.str "Over")) (gName 4))] D' [some (.ref p), some (.ref o), some nv, some (.int style), some (.str ""), some .non] H1) := fun nv' en => by
        rw [en]
        refine SP _ _ done1 (fun e H' s => ⟨C_NoNumber, rfl, .inl ⟨exc_self X_NoNumber.ex, hD' _ _ ⟨_, _, rfl, by rw [e]; rfl, s, fun z => (by rw [e] at z; cases z), fun _ => rfl⟩⟩⟩) (fun e e2 H' s => ⟨C_NoHand, rfl, .inr ⟨Q_NoHand_NoNumber.sub, .inl ⟨exc_self X_NoHand.ex, hD' _ _ ⟨_, _, rfl, by rw [e, e2]; rfl, s, fun _ z => (by rw [e2] at z; cases z), fun _ => rfl⟩⟩⟩⟩) (fun e e2 H' s => ⟨C_Over, rfl, .inr ⟨Q_Over_NoNumber.sub, .inr ⟨Q_Over_NoHand.sub, .inl ⟨exc_self X_Over.ex, hD' _ _ ⟨_, _, rfl, by rw [e, e2]; rfl, s, fun _ z => (by rw [e2] at z; cases z), fun _ => rfl⟩⟩⟩⟩⟩)
      have E2 : tIfS (tTest (tOp rEq (tVar 3) (tC (V.int 1)))) (tAsg (tCallX (spWebX C_Works C_Hand C_NoNumber C_NoHand C_Over K) (fun σ1 cls dx H1 => ∃ C, cls = .ref C ∧ pickH K C [(C_NoNumber, tAsg (tC (V.str "NoNumber")) (gName 4)), (C_NoHand, tAsg (tC (V.str "NoHand")) (gName 4)), (C_Over, tAsg (tC (V.str "Over")) (gName 4))] D' σ1 H1) (tCons (tVar 0) (tCons (tVar 1) (tCons (tVar 2) tNil)))) (gName 5)) (tAsg (tCallKw (spWebX C_Works C_Hand C_NoNumber C_NoHand C_Over K) (fun σ1 cls dx H1 => ∃ C, cls = .ref C ∧ pickH K C [(C_NoNumber, tAsg (tC (V.str "NoNumber")) (gName 4)), (C_NoHand, tAsg (tC (V.str "NoHand")) (gName 4)), (C_Over, tAsg (tC (V.str "Over")) (gName 4))] D' σ1 H1) (tCons (tVar 0) (tCons (tVar 1) tNil)) (tVar 2)) (gName 5)) D' [some (.ref p), some (.ref o), some nv, some (.int style), some (.str ""), some .non] H := by
        refine ⟨_, rfl, rfl, _, rfl, ite2 (fun _ => ?_) (fun _ => ?_)⟩
        · exact ⟨_, rfl, _, rfl, _, rfl, G nv rfl⟩
        · exact ⟨_, rfl, _, rfl, _, rfl, _, rfl, G nv rfl⟩
      refine ⟨_, rfl, rfl, _, rfl, ite2 (fun z1 => ?_) (fun _ => iteF E2)⟩
      refine ⟨_, rfl, _, _, rfl, rfl, _, rfl, ite2 (fun _ => ?_) (fun _ => E2)⟩
      exact ⟨_, rfl, _, rfl, G .non (of_decide_eq_true z1).symm⟩
    · rintro σ H' ⟨w', fv, rfl, rfl, s, k1, k2⟩
      refine ⟨_, rfl, _, rfl, (by show 2 ≤ sizeLine; decide), fun t ht => ?_⟩
      have st' := same_new (o := HO.tup [V.str (wrdO good st), fv]) ht
      refine k t fv _ upd_same (s.trans st') (fun e1 e2 => ?_) k2
      obtain ⟨a, e, W⟩ := k1 e1 e2
      exact ⟨a, e, W.same st'⟩
def spTchTold (K : PySem.W.Frag) : Sp := fun vs H Q _ => ∃ (p L : Addr) (rs : List Addr) (rws : List (List Rw)) (m : Nat) (nv : V) (ns : List Int) (o : Addr) (os : List Int) (style : Int) (good : Bool) (l : List Tc) (st : Option Bool), vs = [.ref p, .ref o, nv, .int style] ∧ PgH H p L rs rws m ∧ rws.length ≤ 8 ∧ m ≤ 20 ∧ NumA H m nv ns ∧ H o = some (.lst (os.map V.int)) ∧ os.length ≤ 400 ∧ Told18 H m ns rws os good l st ∧
  ∀ (t : Addr) (fv : V) (H' : Hp), H' t = some (.tup [.str (wrdO good st), fv]) → Same H H' → (good = true → st = none → ∃ D as, fv = .ref D ∧ H D = none ∧ (∀ q ∈ as, H q = none ∧ q ≠ D) ∧ as.Nodup ∧ as.length = rws.length ∧ RwT H' D as l) → (¬ (good = true ∧ st = none) → fv = .non) → Q (.ref t) H'
theorem ok_tchTold {C_Works C_Hand C_NoNumber C_NoHand C_Over : Addr} (X_NoNumber : Xr K mg C_NoNumber "NoNumber") (X_NoHand : Xr K mg C_NoHand "NoHand") (X_Over : Xr K mg C_Over "Over") (Q_NoHand_NoNumber : XPair K C_NoHand C_NoNumber false) (Q_Over_NoNumber : XPair K C_Over C_NoNumber false) (Q_Over_NoHand : XPair K C_Over C_NoHand false) {f : Addr} {fd : FuncData} (F : Fun K "_law_touches_told" "_law_touches_told" s_Ltouches_told f fd) (F_touches_of : FnAtX P w K mg base 9 "touches_of" ["program", "order", "cells"] (spTouchesX C_Works C_Hand C_NoNumber C_NoHand C_Over K)) (F_touches_of1 : FnAtD P w K mg base 9 "touches_of" ["program", "order", "cells"] [.non] (spTouchesX C_Works C_Hand C_NoNumber C_NoHand C_Over K)) (F_touches_ofK : FnAtK P w K mg base 9 "touches_of" ["program", "order", "cells"] "cells" (spTouchesX C_Works C_Hand C_NoNumber C_NoHand C_Over K)) : FnOk P w K mg base CX0 10 f fd ["program", "order", "numbers", "style"] (spTchTold K) := by
  refine F.ok sc_Ltouches_told (fun vs H Q E h => ?_) (fun cdv A outer s H vs Q E hr h => ?_)
  · obtain ⟨p, L, rs, rws, m, nv, ns, o, os, style, good, l, st, rfl, _⟩ := h
    rfl
  · obtain ⟨p, L, rs, rws, m, nv, ns, o, os, style, good, l, st, rfl, g, r8, m20, na, ho, ol, ⟨tg, tw⟩, k⟩ := h
    refine ⟨_, (pss_cons (ps_set (i := 4) sc_Ltouches_told.nd rfl (Or.inl rfl) pe_str)
      (pss_cons (ps_set (i := 5) sc_Ltouches_told.nd rfl (Or.inl rfl) pe_non)
      (pss_cons (ps_tryN rfl rfl rfl rfl (fun _ _ _ _ hR => (pss_one (ps_if (PW.pt (pw_and (pt_cmpR op_isN (pv 2) pe_non (nomark _)) (pw_and1 (pt_cmpR op_gt (pv 3) pe_int (nomark _))))) (pss_one (ps_set (i := 5) sc_Ltouches_told.nd rfl (Or.inl rfl) (pe_fnD F_touches_of1 rfl hR (hr.mono (by decide)) (by rfl) (pa_cons (pv 0) (pa_cons (pv 1) pa_nil))))) (pss_one (ps_if (pt_cmpR op_eq (pv 3) pe_int (nomark _)) (pss_one (ps_set (i := 5) sc_Ltouches_told.nd rfl (Or.inl rfl) (pe_fnX F_touches_of rfl hR (hr.mono (by decide)) (by rfl) (pa_cons (pv 0) (pa_cons (pv 1) (pa_cons (pv 2) pa_nil)))))) (pss_one (ps_set (i := 5) sc_Ltouches_told.nd rfl (Or.inl rfl) (pe_fnKw F_touches_ofK rfl hR (hr.mono (by decide)) (by rfl) (pa_cons (pv 0) (pa_cons (pv 1) pa_nil)) (pv 2))))))))) (PH.cons (by rfl) X_NoNumber.bd X_NoNumber.hd (fun _ => (pss_one (ps_set (i := 4) sc_Ltouches_told.nd rfl (Or.inl rfl) pe_str))) (by decide) (PH.cons (by rfl) X_NoHand.bd X_NoHand.hd (fun _ => (pss_one (ps_set (i := 4) sc_Ltouches_told.nd rfl (Or.inl rfl) pe_str))) (by decide) (PH.cons (by rfl) X_Over.bd X_Over.hd (fun _ => (pss_one (ps_set (i := 4) sc_Ltouches_told.nd rfl (Or.inl rfl) pe_str))) (by decide) PH.nil))))
      (pss_one (ps_ret (pe_tup (pa_cons (pv 4) (pa_cons (pv 5) pa_nil)))))))), ?_⟩
    refine set_c (set_c ?_)
    refine seq_cps (fun σ H' => ∃ (w' : Str) (fv : V), σ = [some (.ref p), some (.ref o), some nv, some (.int style), some (.str w'), some fv] ∧ w' = wrdO good st ∧ Same H H' ∧ (good = true → st = none → ∃ D as, fv = .ref D ∧ H D = none ∧ (∀ q ∈ as, H q = none ∧ q ≠ D) ∧ as.Nodup ∧ as.length = rws.length ∧ RwT H' D as l) ∧ (¬ (good = true ∧ st = none) → fv = .non)) (fun D' hD' rt' => ?_) ?_
    · have SP : ∀ (Q1 : VK) (E1 : XK), (∀ (a : Addr) (as : List Addr) (H' : Hp), H a = none → (∀ q ∈ as, H q = none ∧ q ≠ a) → as.Nodup → as.length = rws.length → RwT H' a as l → Same H H' → good = true → st = none → Q1 (.ref a) H') → (good = false → ∀ H', Same H H' → E1 (.ref C_NoNumber) none H') → (good = true → st = some true → ∀ H', Same H H' → E1 (.ref C_NoHand) none H') → (good = true → st = some false → ∀ H', Same H H' → E1 (.ref C_Over) none H') → spTouchesX C_Works C_Hand C_NoNumber C_NoHand C_Over K [.ref p, .ref o, nv] H Q1 E1 := fun Q1 E1 k1 k2 k3 k4 =>
        ⟨p, L, rs, rws, m, nv, ns, o, os, rfl, g, r8, m20, na, ho, ol, fun z => k2 (by cases good with
          | false => rfl
          | true => exact absurd (tg.mp rfl) z), fun z => ⟨l, st, tw (tg.mpr z), fun e a as H' h1 h2 h3 h4 W s => k1 a as H' h1 h2 h3 h4 W s (tg.mpr z) e, fun e => k3 (tg.mpr z) e, fun e => k4 (tg.mpr z) e⟩⟩
      have done1 : ∀ (a : Addr) (as : List Addr) (H' : Hp), H a = none → (∀ q ∈ as, H q = none ∧ q ≠ a) → as.Nodup → as.length = rws.length → RwT H' a as l → Same H H' → good = true → st = none → D'.nx [some (.ref p), some (.ref o), some nv, some (.int style), some (.str ""), some (.ref a)] H' := fun a as H' h1 h2 h3 h4 W s e1 e2 => hD' _ _ ⟨_, _, rfl, by rw [e1, e2]; rfl, s, fun _ _ => ⟨a, as, rfl, h1, h2, h3, h4, W⟩, fun z => absurd ⟨e1, e2⟩ z⟩
      have G : ∀ nv' : V, nv' = nv → spTouchesX C_Works C_Hand C_NoNumber C_NoHand C_Over K [.ref p, .ref o, nv'] H (fun v H1 => D'.nx [some (.ref p), some (.ref o), some nv, some (.int style), some (.str ""), some v] H1) (fun cls dx H1 => ∃ C, cls = .ref C ∧ pickH K C [(C_NoNumber, tAsg (tC (V.str "NoNumber")) (gName 4)), (C_NoHand, tAsg (tC (V.str "NoHand")) (gName 4)), (C_Over, tAsg (tC (V.str "Over")) (gName 4))] D' [some (.ref p), some (.ref o), some nv, some (.int style), some (.str ""), some .non] H1) := fun nv' en => by
        rw [en]
        refine SP _ _ done1 (fun e H' s => ⟨C_NoNumber, rfl, .inl ⟨exc_self X_NoNumber.ex, hD' _ _ ⟨_, _, rfl, by rw [e]; rfl, s, fun z => (by rw [e] at z; cases z), fun _ => rfl⟩⟩⟩) (fun e e2 H' s => ⟨C_NoHand, rfl, .inr ⟨Q_NoHand_NoNumber.sub, .inl ⟨exc_self X_NoHand.ex, hD' _ _ ⟨_, _, rfl, by rw [e, e2]; rfl, s, fun _ z => (by rw [e2] at z; cases z), fun _ => rfl⟩⟩⟩⟩) (fun e e2 H' s => ⟨C_Over, rfl, .inr ⟨Q_Over_NoNumber.sub, .inr ⟨Q_Over_NoHand.sub, .inl ⟨exc_self X_Over.ex, hD' _ _ ⟨_, _, rfl, by rw [e, e2]; rfl, s, fun _ z => (by rw [e2] at z; cases z), fun _ => rfl⟩⟩⟩⟩⟩)
      have E2 : tIfS (tTest (tOp rEq (tVar 3) (tC (V.int 1)))) (tAsg (tCallX (spTouchesX C_Works C_Hand C_NoNumber C_NoHand C_Over K) (fun σ1 cls dx H1 => ∃ C, cls = .ref C ∧ pickH K C [(C_NoNumber, tAsg (tC (V.str "NoNumber")) (gName 4)), (C_NoHand, tAsg (tC (V.str "NoHand")) (gName 4)), (C_Over, tAsg (tC (V.str "Over")) (gName 4))] D' σ1 H1) (tCons (tVar 0) (tCons (tVar 1) (tCons (tVar 2) tNil)))) (gName 5)) (tAsg (tCallKw (spTouchesX C_Works C_Hand C_NoNumber C_NoHand C_Over K) (fun σ1 cls dx H1 => ∃ C, cls = .ref C ∧ pickH K C [(C_NoNumber, tAsg (tC (V.str "NoNumber")) (gName 4)), (C_NoHand, tAsg (tC (V.str "NoHand")) (gName 4)), (C_Over, tAsg (tC (V.str "Over")) (gName 4))] D' σ1 H1) (tCons (tVar 0) (tCons (tVar 1) tNil)) (tVar 2)) (gName 5)) D' [some (.ref p), some (.ref o), some nv, some (.int style), some (.str ""), some .non] H := by
        refine ⟨_, rfl, rfl, _, rfl, ite2 (fun _ => ?_) (fun _ => ?_)⟩
        · exact ⟨_, rfl, _, rfl, _, rfl, G nv rfl⟩
        · exact ⟨_, rfl, _, rfl, _, rfl, _, rfl, G nv rfl⟩
      refine ⟨_, rfl, rfl, _, rfl, ite2 (fun z1 => ?_) (fun _ => iteF E2)⟩
      refine ⟨_, rfl, _, _, rfl, rfl, _, rfl, ite2 (fun _ => ?_) (fun _ => E2)⟩
      exact ⟨_, rfl, _, rfl, G .non (of_decide_eq_true z1).symm⟩
    · rintro σ H' ⟨w', fv, rfl, rfl, s, k1, k2⟩
      refine ⟨_, rfl, _, rfl, (by show 2 ≤ sizeLine; decide), fun t ht => ?_⟩
      have st' := same_new (o := HO.tup [V.str (wrdO good st), fv]) ht
      refine k t fv _ upd_same (s.trans st') (fun e1 e2 => ?_) k2
      obtain ⟨a, as, e, h1, h2, h3, h4, W⟩ := k1 e1 e2
      exact ⟨a, as, e, h1, h2, h3, h4, W.same st'⟩

/-! ### what a works tells turn by turn -/
def spDue18 (K : PySem.W.Frag) : Sp := fun vs H Q _ => ∃ (p L : Addr) (rs : List Addr) (rws : List (List Rw)) (m : Nat) (nv : V) (ns : List Int) (o : Addr) (os : List Int) (l : List Tc) (st : Option Bool), vs = [.ref p, .ref o, nv] ∧ PgH H p L rs rws m ∧ rws.length ≤ 8 ∧ m ≤ 20 ∧ NumH H nv ns m ∧ H o = some (.lst (os.map V.int)) ∧ os.length ≤ 400 ∧ Wk (begS m ns rws) os l st ∧
  ∀ (t : Addr) (v1 v2 : V) (H' : Hp), H' t = some (.tup [.str (wrdO true st), v1, v2]) → Same H H' → (st = none → ∃ a D as, v1 = .ref a ∧ v2 = .ref D ∧ WebAt H' a (l.map webT) ∧ as.length = rws.length ∧ RwT H' D as l) → (st ≠ none → v1 = .non ∧ v2 = .non) → Q (.ref t) H'
theorem ok_due18 {C_Works C_Hand C_NoNumber C_NoHand C_Over : Addr} (X_NoHand : Xr K mg C_NoHand "NoHand") (X_Over : Xr K mg C_Over "Over") (Q_Over_NoHand : XPair K C_Over C_NoHand false) {f : Addr} {fd : FuncData} (F : Fun K "_law_due" "_law_due" s_Ldue f fd) (N_Works : MakeAt P w K mg base 7 C_Works "Works" ["self", "program", "cells"] [] (fun vs H Q _ => spWInit C_Works C_Hand C_NoNumber K vs H Q fun _ _ _ => False)) (M_Works_turn : MethAtX P w K mg base 7 C_Works "turn" ["self", "hand"] (spTurn C_Works C_Hand C_NoHand C_Over K)) (Z_Works : Cl_Works K C_Works) : FnOk P w K mg base CX0 9 f fd ["program", "order", "numbers"] (spDue18 K) := by
  refine F.ok sc_Ldue (fun vs H Q E h => ?_) (fun cdv A outer s H vs Q E hr h => ?_)
  · obtain ⟨p, L, rs, rws, m, nv, ns, o, os, l, st, rfl, _⟩ := h
    rfl
  · obtain ⟨p, L, rs, rws, m, nv, ns, o, os, l, st, rfl, g, r8, m20, nh, ho, ol, ⟨Se, rest, R, eos, stp⟩, k⟩ := h
    have ll : l.length ≤ os.length := by rw [eos, List.length_append, kI_len]; omega
    refine ⟨_, (pss_cons (ps_set (i := 3) sc_Ldue.nd rfl (Or.inl rfl) pe_str)
      (pss_cons (ps_set (i := 4) sc_Ldue.nd rfl (Or.inl rfl) (pe_lst pa_nil))
      (pss_cons (ps_setC (i := 5) rfl sc_Ldue.nd rfl (Or.inl rfl) (N := ["hand"]) (own := ["hand"]) (caps := []) (CompScope.of (by kernel_rfl)) (pi_listK (K := K) rfl (pe_ix (ix_tupK (K := K) rfl) (pv 0) pe_int (fun _ _ => rfl))) (fun _ _ _ _ => (pg_name (i := 0) (show List.Nodup (["hand"] : List Str) by decide +kernel) rfl (Or.inl rfl))) (fun _ _ _ _ => pts_nil) (fun _ _ _ _ => (pe_lst pa_nil)))
      (pss_cons (ps_set (i := 6) sc_Ldue.nd rfl (Or.inl rfl) (pe_makeA N_Works (hr.mono (by decide)) (by rfl) (pa_cons (pv 0) (pa_cons (pv 2) pa_nil))))
      (pss_cons (ps_for PassesOwn.never rfl (pi_listK (K := K) rfl (pv 1)) (pg_name (i := 7) sc_Ldue.nd rfl (Or.inl rfl))
      (pss_cons (ps_set (i := 8) sc_Ldue.nd rfl (Or.inl rfl) pe_non)
      (pss_cons (ps_tryN rfl rfl rfl rfl (fun _ _ _ _ hR => (pss_one (ps_set (i := 8) sc_Ldue.nd rfl (Or.inl rfl) (pe_methX M_Works_turn Z_Works.cls rfl hR (hr.mono (by decide)) (pv 6) (pa_cons (pv 7) pa_nil))))) (PH.cons (by rfl) X_NoHand.bd X_NoHand.hd (fun _ => (pss_one (ps_set (i := 3) sc_Ldue.nd rfl (Or.inl rfl) pe_str))) (by decide) (PH.cons (by rfl) X_Over.bd X_Over.hd (fun _ => (pss_one (ps_set (i := 3) sc_Ldue.nd rfl (Or.inl rfl) pe_str))) (by decide) PH.nil)))
      (pss_cons (ps_if (pt_cmpR op_ne (pv 3) pe_str (nomark _)) (pss_one (ps_ret (pe_tup (pa_cons (pv 3) (pa_cons pe_non (pa_cons pe_non pa_nil)))))) pss_nil)
      (pss_cons (ps_expr (pe_appendK (K := K) rfl (pv 4) (pa_cons (pe_tup (pa_cons (pv 7) (pa_cons (pe_ix (ix_tupK (K := K) rfl) (pv 8) pe_int (fun _ _ => rfl)) (pa_cons (pe_ix (ix_tupK (K := K) rfl) (pv 8) pe_int (fun _ _ => rfl)) pa_nil)))) pa_nil)))
      (pss_one (ps_expr (pe_appendK (K := K) rfl (pe_ix (ix_listK (K := K) rfl) (pv 5) (pv 7) (fun _ _ => rfl)) (pa_cons (pv 8) pa_nil)))))))))
      (pss_one (ps_ret (pe_tup (pa_cons pe_str (pa_cons (pv 4) (pa_cons (pv 5) pa_nil))))))))))), ?_⟩
    refine ⟨(by show 0 ≤ sizeLine; decide), fun a ha => ?_⟩
    have sa := same_new (o := HO.lst []) ha
    have ea0 : (upd H a (.lst [])) a = some (.lst []) := upd_same
    generalize (upd H a (.lst [])) = H1 at sa ea0 ⊢
    refine ⟨_, rfl, _, _, _, _, rfl, rfl, SqT.of (sa _ _ g.ep), rfl, L, rfl, ⟨_, SqL.of (sa _ _ g.eL)⟩, fun D hD => ?_⟩
    refine comp_list (K := K) (a := L) (xs := rs.map V.ref) (fun i σ Hd => ∃ (v : Option V) (as : List Addr), σ = [v] ∧ Hd D = some (.lst (as.map V.ref)) ∧ as.length = i ∧ as.Nodup ∧ (∀ a ∈ as, H1 a = none ∧ a ≠ D ∧ Hd a = some (.lst [])) ∧ Same H1 Hd)
      ⟨none, [], rfl, upd_same, rfl, List.nodup_nil, by simp, same_new hD⟩ (fun i σ Hd _ ⟨_, _, _, _, _, _, _, sm⟩ => SqL.of (sm _ _ (sa _ _ g.eL))) ?_ ?_
    · rintro i x σ Hd hi ⟨v, as, rfl, hDd, la, nd, al, sm⟩
      dsimp only [gName, tAll]
      rw [if_pos rfl]
      have il : i < rs.length := by have := (List.getElem?_eq_some_iff.mp hi).1; rwa [List.length_map] at this
      refine ⟨(by show 0 ≤ sizeLine; decide), fun q hq => ⟨as.map V.ref, ?_, ?_, _, as ++ [q], rfl, ?_, by simp [la], ?_, ?_, ?_⟩⟩
      · exact same_new hq _ _ hDd
      · rw [List.length_map, la, sizeLine_eq]; have := g.len; omega
      · rw [upd_same, List.map_append]; rfl
      · refine List.nodup_append.mpr ⟨nd, by simp, fun a ha b hb e => ?_⟩
        rw [List.mem_singleton.mp hb] at e
        have := (al a ha).2.2
        rw [e, hq] at this
        cases this
      · intro a ha
        rcases List.mem_append.mp ha with ha | ha
        · obtain ⟨h1, h2, h3⟩ := al a ha
          exact ⟨h1, h2, by rw [upd_ne h2]; exact same_new hq _ _ h3⟩
        · rw [List.mem_singleton.mp ha]
          have nq : q ≠ D := fun e => by rw [e, hDd] at hq; cases hq
          exact ⟨sm.free hq, nq, by rw [upd_ne nq, upd_same]⟩
      · intro x u e
        rw [upd_ne (ne_of_none e hD)]
        exact same_new hq _ _ (sm _ _ e)
    rintro σ H2 ⟨v, as, rfl, hD2, la, nd, al, sm⟩
    rw [List.length_map, g.len] at la
    have hD0 : H D = none := sa.free hD
    have s2 : Same H H2 := sa.trans sm
    refine ⟨_, rfl, _, rfl, ?_⟩
    dsimp only [tNil]
    refine (made_wk (i := 2) (τ := fun _ => []) (g.same s2) (by omega) (by omega) (fun _ _ => rfl) (by decide) ⟨nh.1, nh.2.elim .inl fun ⟨cl, e, q⟩ => .inr ⟨cl, e, s2 _ _ q⟩⟩ fun τ1 W H3 w1 tg1 s3 => ?_)
    have tg1 : ∀ x u, H2 x = some u → τ1 x = [] := tg1
    have ta : τ1 a = [] := tg1 _ _ (sm _ _ ea0)
    have tD' : τ1 D = [] := tg1 _ _ hD2
    have tas : ∀ q ∈ as, τ1 q = [] := fun q hq => tg1 _ _ (al q hq).2.2
    have nas : ∀ q ∈ as, q ≠ a := fun q hq => (ne_of_none ea0 (al q hq).1).symm
    have nDa : D ≠ a := (ne_of_none ea0 hD).symm
    have ha0 : H a = none := ha
    refine ⟨_, rfl, o, rfl, ⟨_, SqL.of (s3 _ _ (s2 _ _ ho))⟩, ?_⟩
    refine for_list (K := K) (a := o) (xs := os.map V.int) (fun j σ Hc => ∃ (x1 x2 : Option V) (S1 : WkS) (refs : List V), σ = [some (.ref p), some (.ref o), some nv, some (.str ""), some (.ref a), some (.ref D), some (.ref W.o), x1, x2] ∧ j ≤ l.length ∧ WAt C_Works C_Hand 2 τ1 Hc W S1 ∧ Run (begS m ns rws) (l.take j) S1 ∧ Hc a = some (.lst refs) ∧ Dats Hc refs (((l.take j).map webT).map tD) ∧ RwT Hc D as (l.take j) ∧ Same H Hc)
      ⟨none, none, _, [], rfl, Nat.zero_le _, w1, by rw [List.take_zero]; rfl, s3 _ _ (sm _ _ ea0), by simp [Dats], ⟨s3 _ _ hD2, fun h q e => ⟨[], s3 _ _ (al q (List.mem_of_getElem? e)).2.2, by rw [List.take_zero]; simp [ofH, Dats]⟩⟩, s2.trans s3⟩ (fun j σ Hc _ ⟨_, _, _, _, _, _, _, _, _, _, _, sc⟩ => SqL.of (sc _ _ ho)) ?_ ?_
    · rintro j v σ Hc hj ⟨x1, x2, S1, refs, rfl, jl, wc, R1, eac, dc, rc, sc⟩
      obtain ⟨h, eh, rfl⟩ := ints_get hj
      have tl : S1.ts.length ≤ 10000 := by rw [run_ts R1]; show ([] ++ _).length ≤ _; simp; omega
      refine set_c ?_
      refine seq_cps (fun σ H' => (∃ (t : Tc) (u : Addr), l[j]? = some t ∧ h = (t.k : Int) ∧ σ = [some (.ref p), some (.ref o), some nv, some (.str ""), some (.ref a), some (.ref D), some (.ref W.o), some (.int h), some (.ref u)] ∧ H' u = some (.tup (tcV t)) ∧ WAt C_Works C_Hand 2 τ1 H' W (turnS S1 t.k) ∧ Stp 2 τ1 Hc H') ∨ (σ = [some (.ref p), some (.ref o), some nv, some (.str (wrdO true st)), some (.ref a), some (.ref D), some (.ref W.o), some (.int h), some .non] ∧ H' = Hc ∧ st ≠ none)) (fun D' hD' rt' => ?_) ?_
      · refine ⟨_, rfl, W.o, W.dx, _, rfl, wc.o, rfl, _, rfl, ?_⟩
        dsimp only [tNil]
        rcases os_at eos jl eh with ⟨t, et, rfl⟩ | ⟨rfl, r', er⟩
        · obtain ⟨at1, R2⟩ := run_at R R1 et
          exact turn_runE wc tl at1 fun u Hd hu eu wd st' => hD' _ _ (.inl ⟨t, u, et, rfl, rfl, eu, wd, st'⟩)
        · rw [List.take_length] at R1
          have := R1.det R
          subst this
          subst er
          cases st with
          | none => exact stp.elim
          | some b => exact turn_stop wc tl stp (fun e => ⟨C_NoHand, rfl, .inl ⟨exc_self X_NoHand.ex, hD' _ _ (.inr ⟨by rw [e]; rfl, rfl, by simp⟩)⟩⟩) (fun e => ⟨C_Over, rfl, .inr ⟨Q_Over_NoHand.sub, .inl ⟨exc_self X_Over.ex, hD' _ _ (.inr ⟨by rw [e]; rfl, rfl, by simp⟩)⟩⟩⟩)
      · rintro σ Hd (⟨t, u, et, rfl, rfl, eu, wd, st'⟩ | ⟨rfl, rfl, sn⟩)
        · have jl := (List.getElem?_eq_some_iff.mp et).1
          obtain ⟨at1, R2⟩ := run_at R R1 et
          refine ⟨_, rfl, rfl, _, rfl, iteNS rfl ?_⟩
          unfold tNext
          dsimp only
          have ead := st'.keep _ _ eac (by rw [ta]; simp)
          refine ⟨_, rfl, .inl ⟨rfl, _, SqL.of ead⟩, _, rfl, _, rfl, _, _, _, _, rfl, rfl, SqT.of eu, rfl, _, rfl, _, _, _, _, rfl, rfl, SqT.of eu, rfl, (by show 3 ≤ sizeLine; decide), fun u2 hu2 => ?_⟩
          have su := same_new (o := HO.tup [V.int (t.k : Int), V.str (wordR t.r), V.int (cellR t.r)]) hu2
          have eau := su _ _ ead
          have eu2 : (upd Hd u2 (.tup [V.int (t.k : Int), V.str (wordR t.r), V.int (cellR t.r)])) u2 = some (.tup [V.int (t.k : Int), V.str (wordR t.r), V.int (cellR t.r)]) := upd_same
          have wu := wd.same su
          have du := (dc.keep (fun x xs e => su _ _ (st'.tup _ _ e)) _ (imms_map tD imm_tD _))
          have rd : RwT Hd D as (l.take j) := rc.keep (fun x o' e h => st'.keep _ _ e (by
            rcases h with rfl | h
            · rw [tD']; simp
            · rw [tas x h]; simp)) st'.tup
          have rdu := rd.same su
          have scu : Same H (upd Hd u2 (.tup [V.int (t.k : Int), V.str (wordR t.r), V.int (cellR t.r)])) := fun x o' e => su _ _ (st'.keep _ _ (sc _ _ e) (by rw [tg1 x o' (s2 _ _ e)]; simp))
          have euu := su _ _ eu
          clear rd
          generalize (upd Hd u2 (.tup [V.int (t.k : Int), V.str (wordR t.r), V.int (cellR t.r)])) = He at eau eu2 wu du rdu scu euu ⊢
          have rl : refs.length = j := by rw [dc.length, List.length_map, List.length_map, List.length_take]; omega
          refine ⟨_, _, _, rfl, rfl, eau, (by rw [rl, sizeLine_eq]; omega), ?_⟩
          have kk : Kp a He (upd He a (.lst (refs ++ [V.ref u2]))) := Kp.set
          have tu : ∀ x ys, He x = some (.tup ys) → (upd He a (.lst (refs ++ [V.ref u2]))) x = some (.tup ys) := kk.tups eau
          have wf := wu.kp kk eau (by intro xs z; cases z) ta ⟨_, upd_same⟩
          have df := dats_snoc (du.keep tu _ (imms_map tD imm_tD _)) (dat_tch (x := webT t) (tu _ _ eu2))
          have rf := rdu.keep (H' := upd He a (.lst (refs ++ [V.ref u2]))) (fun x o' e h => kk _ _ e (by
            rcases h with rfl | h
            · exact nDa
            · exact nas x h)) tu
          have scf : Same H (upd He a (.lst (refs ++ [V.ref u2]))) := fun x o' e => kk _ _ (scu _ _ e) (ne_of_none e ha0)
          have euf := tu _ _ euu
          have eaf : (upd He a (.lst (refs ++ [V.ref u2]))) a = some (.lst (refs ++ [V.ref u2])) := upd_same
          clear kk tu du rdu wu scu euu
          generalize (upd He a (.lst (refs ++ [V.ref u2]))) = Hf at wf df rf scf euf eaf ⊢
          have kl : t.k < as.length := by
            have := run_k R t (List.mem_of_getElem? et)
            rw [la]
            have e : (begS m ns rws).hs.length = rws.length := by show (rws.map _).length = _; rw [List.length_map]
            rwa [e] at this
          obtain ⟨q, eq⟩ : ∃ q, as[t.k]? = some q := ⟨_, List.getElem?_eq_getElem kl⟩
          obtain ⟨refs1, e1, d1⟩ := rf.r t.k q eq
          have mq := List.mem_of_getElem? eq
          obtain ⟨hq1, hqD, _⟩ := al q mq
          refine ⟨_, rfl, _, rfl, _, _, _, _, rfl, rfl, SqL.of rf.d, atI_nat (j := t.k) (v := V.ref q) (by rw [List.getElem?_map, eq]; rfl), .inl ⟨rfl, _, SqL.of e1⟩, _, rfl, q, _, _, rfl, rfl, e1, ?_, ?_⟩
          · rw [d1.length, List.length_map, sizeLine_eq]
            have := List.length_filter_le (fun t' : Tc => t'.k == t.k) (l.take j)
            rw [List.length_take] at this
            unfold ofH
            omega
          have kk : Kp q Hf (upd Hf q (.lst (refs1 ++ [V.ref u]))) := Kp.set
          have tu : ∀ x ys, Hf x = some (.tup ys) → (upd Hf q (.lst (refs1 ++ [V.ref u]))) x = some (.tup ys) := kk.tups e1
          refine ⟨_, _, _, refs ++ [.ref u2], rfl, jl, wf.kp kk e1 (by intro xs z; cases z) (tas q mq) ⟨_, upd_same⟩, R2, by rw [upd_ne (nas q mq).symm]; exact eaf, ?_, ⟨?_, fun h q' e' => ?_⟩, fun x o' e => kk _ _ (scf _ _ e) (ne_of_none e (sa.free hq1))⟩
          · rw [List.take_add_one, et]
            show Dats _ _ ((((l.take j) ++ [t]).map webT).map tD)
            rw [List.map_append, List.map_append]
            exact df.keep tu _ (by rw [← List.map_append, ← List.map_append]; exact imms_map tD imm_tD _)
          · rw [upd_ne hqD.symm]; exact rf.d
          · rw [List.take_add_one, et]
            show ∃ refs', _ ∧ Dats _ refs' ((ofH (l.take j ++ [t]) h).map tcD)
            rw [ofH_snoc]
            by_cases z : t.k = h
            · subst z
              rw [eq] at e'
              cases e'
              rw [if_pos rfl, List.map_append]
              exact ⟨_, upd_same, dats_snoc (d1.keep tu _ (imms_tc _)) (dat_tc (tu _ _ euf))⟩
            · rw [if_neg z, List.append_nil]
              obtain ⟨refs', e2, d2⟩ := rf.r h q' e'
              have nq : q' ≠ q := fun x => by
                subst x
                exact z ((List.getElem?_inj kl nd).mp (eq.trans e'.symm))
              exact ⟨refs', by rw [upd_ne nq]; exact e2, d2.keep tu _ (imms_tc _)⟩
        · obtain ⟨b, rfl⟩ : ∃ b, st = some b := by
            cases st with
            | none => exact absurd rfl sn
            | some b => exact ⟨b, rfl⟩
          have nw : decide (V.str (wrdO true (some b)) = V.str "") = false := by cases b <;> decide
          refine ⟨_, rfl, rfl, _, rfl, ?_⟩
          rw [nw]
          refine iteT ?_
          refine ⟨_, rfl, (by show 3 ≤ sizeLine; decide), fun t ht => ?_⟩
          have s4 := same_new (o := HO.tup [V.str (wrdO true (some b)), V.non, V.non]) ht
          exact k t _ _ _ upd_same (sc.trans s4) (fun z => by cases z) (fun _ => ⟨rfl, rfl⟩)
    · rintro σ Hc ⟨x1, x2, S1, refs, rfl, jl, wc, R1, eac, dc, rc, sc⟩
      rw [List.length_map] at jl dc rc
      have el : os.length = l.length := by omega
      have er : rest = [] := by
        rw [eos, List.length_append, kI_len] at el
        exact List.eq_nil_of_length_eq_zero (by omega)
      subst er
      have es : st = none := by
        cases st with
        | none => rfl
        | some b => cases b <;> exact stp.elim
      subst es
      rw [el, List.take_length] at dc rc
      refine ⟨_, rfl, _, rfl, (by show 3 ≤ sizeLine; decide), fun t ht => ?_⟩
      have s4 := same_new (o := HO.tup [V.str "", V.ref a, V.ref D]) ht
      exact k t _ _ _ upd_same (sc.trans s4) (fun _ => ⟨a, D, as, rfl, rfl, ⟨refs, s4 _ _ eac, dc.same s4 _⟩, la, rc.same s4⟩) (fun z => absurd rfl z)

/-! ### first numbers, good or not -/
def NumT (τ : Tg) (H : Hp) (m : Nat) (nv : V) (ns : List Int) (good : Bool) : Prop := ns.length ≤ 100 ∧ (good = true ↔ numOkL m ns) ∧ ((nv = .non ∧ ns = List.replicate m 0) ∨ ∃ cl, nv = .ref cl ∧ τ cl = [0] ∧ H cl = some (.lst (ns.map V.int)))
theorem NumT.mv {i : Nat} {τ τ' : Tg} {H H' : Hp} {v : V} {ns : List Int} {m : Nat} {good : Bool} (h : NumT τ H m v ns good) (q : Mv i τ H τ' H') : NumT τ' H' m v ns good := by
  obtain ⟨l, g, h⟩ := h
  refine ⟨l, g, ?_⟩
  rcases h with h | ⟨l, e, t, hl⟩
  · exact .inl h
  · have := q.keep _ _ hl (.inl t)
    exact .inr ⟨l, e, this.2.trans t, this.1⟩
def spNum18 (K : PySem.W.Frag) : Sp := fun vs H Q _ => ∃ (r : Addr) (τ : Tg) (m : Nat), vs = [.ref r, .int m] ∧ ST τ H r ∧ 0 < m ∧ m ≤ 20 ∧ ∀ (D : Addr) (nv : V) (ns : List Int) (good : Bool) (τ' : Tg) (H' : Hp), H' D = some (.lst [nv, .bl good]) → NumT τ' H' m nv ns good → ST τ' H' r → (∀ x u, H x = some u → τ' x = τ x) → Kp r H H' → Q (.ref D) H'
theorem ok_num18 {f : Addr} {fd : FuncData} (F : Fun K "_law_numbers" "_law_numbers" s_Lnumbers f fd) (F_Ldraw : FnAt P w K mg base 1 "_law_draw" ["spring", "many"] (spDraw K)) (Bt : Blt mg) : FnOk P w K mg base CX0 2 f fd ["spring", "room"] (spNum18 K) := by
  refine F.ok sc_Lnumbers (fun vs H Q E h => ?_) (fun cdv A outer s H vs Q E hr h => ?_)
  · obtain ⟨r, τ, m, rfl, _⟩ := h
    rfl
  · obtain ⟨r, τ, m, rfl, T, m0, m20, k⟩ := h
    have hcp : CPow 10 29 := ⟨by decide, by decide, by decide⟩
    refine ⟨_, (pss_cons (ps_set (i := 2) sc_Lnumbers.nd rfl (Or.inl rfl) (pe_fn F_Ldraw (hr.mono (by decide)) (by rfl) (pa_cons (pv 0) (pa_cons pe_int pa_nil))))
      (pss_cons (ps_set (i := 3) sc_Lnumbers.nd rfl (Or.inl rfl) (pe_fn F_Ldraw (hr.mono (by decide)) (by rfl) (pa_cons (pv 0) (pa_cons (pv 1) pa_nil))))
      (pss_cons (ps_set (i := 4) sc_Lnumbers.nd rfl (Or.inl rfl) (pe_ix (ix_listK (K := K) rfl) (pe_lst (pa_cons (pe_un un_neg pe_int) (pa_cons pe_int (pa_cons (pe_op op_pow pe_int pe_int) (pa_cons (pe_op op_sub pe_int (pe_op op_pow pe_int pe_int)) (pa_cons pe_int pa_nil)))))) (pe_fn F_Ldraw (hr.mono (by decide)) (by rfl) (pa_cons (pv 0) (pa_cons pe_int pa_nil))) (fun _ _ => rfl)))
      (pss_cons (ps_setC (i := 5) rfl sc_Lnumbers.nd rfl (Or.inl rfl) (N := ["cell", "spring"]) (own := ["cell"]) (caps := [0]) (CompScope.of (by kernel_rfl)) (pi_range1 (by rfl) Bt.b_range (pa_cons (pv 1) pa_nil)) (fun _ _ _ _ => (pg_name (i := 0) (show List.Nodup (["cell", "spring"] : List Str) by decide +kernel) rfl (Or.inl rfl))) (fun _ _ _ _ => pts_nil) (fun _ _ _ _ => (pe_fn F_Ldraw (hr.mono (by decide)) (by rfl) (pa_cons (pv 1) (pa_cons pe_int pa_nil)))))
      (pss_cons (ps_if (pt_cmpR op_lt (pv 2) pe_int (nomark _)) (pss_one (ps_ret (pe_lst (pa_cons pe_non (pa_cons pe_bl pa_nil))))) pss_nil)
      (pss_cons (ps_if (pt_cmpR op_eq (pv 2) pe_int (nomark _)) (pss_one (ps_ret (pe_lst (pa_cons (pe_op op_cat (pe_op op_cat (pe_slice (sl_listK (K := K) rfl) (pv 5) po_none (po_some (pv 3))) (pe_lst (pa_cons (pv 4) pa_nil))) (pe_slice (sl_listK (K := K) rfl) (pv 5) (po_some (pe_op op_add (pv 3) pe_int)) po_none)) (pa_cons pe_bl pa_nil))))) pss_nil)
      (pss_cons (ps_if (pt_cmpR op_eq (pv 2) pe_int (nomark _)) (pss_one (ps_ret (pe_lst (pa_cons (pe_slice (sl_listK (K := K) rfl) (pv 5) po_none (po_some (pv 3))) (pa_cons pe_bl pa_nil))))) pss_nil)
      (pss_cons (ps_if (pt_cmpR op_eq (pv 2) pe_int (nomark _)) (pss_one (ps_ret (pe_lst (pa_cons (pe_op op_cat (pv 5) (pe_slice (sl_listK (K := K) rfl) (pv 5) (po_some (pv 3)) po_none)) (pa_cons pe_bl pa_nil))))) pss_nil)
      (pss_one (ps_ret (pe_lst (pa_cons (pv 5) (pa_cons pe_bl pa_nil))))))))))))), ?_⟩
    refine ⟨_, rfl, r, 10, rfl, T.S, by decide, by decide, fun sp H1 z0 z1 R1 k1 => ?_⟩
    refine ⟨_, rfl, _, rfl, r, m, rfl, R1, by omega, by omega, fun a H2 a0 a1 R2 k2 => ?_⟩
    obtain ⟨a, rfl⟩ := Int.eq_ofNat_of_zero_le a0
    refine ⟨_, rfl, _, _, rfl, rfl, hcp, _, _, rfl, rfl, hcp, _, _, rfl, rfl, (by show 5 ≤ sizeLine; decide), fun l5 hl5 => ?_⟩
    have sl5 := same_new (o := HO.lst [V.int (-1), V.int 1000, V.int (10 ^ ((29 : Int).toNat)), V.int (0 - 10 ^ ((29 : Int).toNat)), V.int 1001]) hl5
    have nl5 : l5 ≠ r := R2.ne hl5
    refine ⟨_, rfl, r, 5, rfl, R2.keep sl5, by decide, by decide, fun z H3 z0 z1 R3 k3 => ?_⟩
    obtain ⟨bad, ebad, hbad⟩ : ∃ bad : Int, atI [V.int (-1), V.int 1000, V.int (10 ^ ((29 : Int).toNat)), V.int (0 - 10 ^ ((29 : Int).toNat)), V.int 1001] z = some (.int bad) ∧ ¬ (0 ≤ bad ∧ bad < 1000) := by
      have : z = 0 ∨ z = 1 ∨ z = 2 ∨ z = 3 ∨ z = 4 := by omega
      rcases this with rfl | rfl | rfl | rfl | rfl
      · exact ⟨_, rfl, by decide⟩
      · exact ⟨_, rfl, by decide⟩
      · exact ⟨_, rfl, by decide⟩
      · exact ⟨_, rfl, by decide⟩
      · exact ⟨_, rfl, by decide⟩
    refine ⟨_, _, _, _, rfl, rfl, SqL.of (k3 _ _ upd_same nl5), ebad, ?_⟩
    have kp3 : Kp r H H3 := ((k1.trans k2).trans (.of_same sl5)).trans k3
    have T3 : ST τ H3 r := T.draw kp3 R3
    clear k1 k2 k3 R1 R2 ebad
    refine ⟨_, rfl, _, rfl, by omega, by omega, fun D hD => ?_⟩
    rw [Int.toNat_natCast]
    have sD := same_new (o := HO.lst []) hD
    have nDr : D ≠ r := R3.ne hD
    have hD0 : H D = none := kp_none kp3 nDr hD
    have TD := T3.claim (t := [0]) sD hD ⟨_, upd_same⟩
    have tDD : tgSet τ D [0] D = [0] := tgSet_same
    have tgH : ∀ x u, H x = some u → tgSet τ D [0] x = τ x := fun x u e => tgSet_ne (ne_of_none e hD0)
    generalize tgSet τ D [0] = τd at TD tDD tgH
    refine comp_range (lo := 0) (n := m) (fun i σ Hd => ∃ (v : Option V) (ns : List Int), σ = [v, some (.ref r)] ∧ ST τd Hd r ∧ Hd D = some (.lst (ns.map V.int)) ∧ (∀ x ∈ ns, 0 ≤ x ∧ x < 1000) ∧ ns.length = i ∧ Kp r H Hd) ?_ ?_ ?_
    · exact ⟨none, [], rfl, TD, upd_same, by simp, rfl, kp3.trans (.of_same sD)⟩
    · rintro i σ Hd hi ⟨v, ns, rfl, Td, hDd, od, ld, kd⟩
      dsimp only [gName, tAll]
      rw [if_pos rfl]
      refine ⟨_, rfl, r, 1000, rfl, Td.S, by decide, by decide, fun y H4 y0 y1 R4 k4 => ?_⟩
      have T4 := Td.draw k4 R4
      have hD4 := Td.keep k4 hDd (by rw [tDD]; simp)
      refine ⟨_, hD4, (by rw [List.length_map, sizeLine_eq]; omega), _, ns ++ [y], rfl, T4.set hD4 (by rw [tDD]; simp), by rw [upd_same, List.map_append]; rfl, ?_, by simp [ld], fun x u e n' => by rw [upd_ne (ne_of_none e hD0)]; exact k4 _ _ (kd _ _ e n') n'⟩
      intro x hx
      rcases List.mem_append.mp hx with hx | hx
      · exact od x hx
      · rw [List.mem_singleton.mp hx]; exact ⟨y0, by omega⟩
    rintro σ H4 ⟨v, ns1, rfl, T4, hD4, od, ld, k4⟩
    have ok1 : numOkL m ns1 := ⟨by rw [ld], od⟩
    clear kp3 T3 R3 TD sD sl5 hl5
    -- a list that is new behind H4, handed over with False
    have fin : ∀ (p : Addr) (ns : List Int) (H5 H6 : Hp), ns.length ≤ 100 → ¬ numOkL m ns → H5 p = none → Same H4 H5 → Same H5 H6 → H6 p = some (.lst (ns.map V.int)) → ∀ q, H6 q = none → Q (.ref q) (upd H6 q (.lst [.ref p, .bl false])) := fun p ns H5 H6 nl bad hp s5 s6 ep q hq => by
      have sq := same_new (o := HO.lst [V.ref p, V.bl false]) hq
      have hp4 : H p = none := kp_none k4 (T4.S.ne (s5.free hp)) (s5.free hp)
      exact k q (.ref p) ns false (tgSet τd p [0]) _ upd_same ⟨nl, ⟨fun z => (by cases z), fun z => absurd z bad⟩, .inr ⟨p, rfl, tgSet_same, sq _ _ ep⟩⟩ ((T4.same s5).claim (s6.trans sq) hp ⟨_, sq _ _ ep⟩) (fun x u e => by rw [tgSet_ne (ne_of_none e hp4)]; exact tgH x u e) (k4.trans (.of_same ((s5.trans s6).trans sq)))
    refine ⟨_, rfl, _, _, rfl, rfl, _, rfl, ite2 (fun _ => ?_) (fun _ => ?_)⟩
    · refine ⟨(by show 2 ≤ sizeLine; decide), fun q hq => ?_⟩
      have sq := same_new (o := HO.lst [V.non, V.bl true]) hq
      exact k q .non _ true τd _ upd_same ⟨by rw [List.length_replicate]; omega, ⟨fun _ => numOk0 m, fun _ => rfl⟩, .inl ⟨rfl, rfl⟩⟩ (T4.same sq) tgH (k4.trans (.of_same sq))
    have cT : cutV (ns1.map V.int) none (some (a : Int)) = (ns1.take a).map V.int := by rw [cut_take, List.map_take]
    have cD : ∀ j : Nat, cutV (ns1.map V.int) (some (j : Int)) none = (ns1.drop j).map V.int := fun j => by rw [cut_drop, List.map_drop]
    have am : a < m := by omega
    refine ⟨_, rfl, rfl, _, rfl, ite2 (fun _ => ?_) (fun _ => ?_)⟩
    · refine ⟨_, rfl, _, rfl, _, rfl, _, _, rfl, SqL.of hD4, fun p1 hp1 => ?_⟩
      rw [cT]
      have s1 := same_new (o := HO.lst ((ns1.take a).map V.int)) hp1
      refine ⟨_, rfl, (by show 1 ≤ sizeLine; decide), fun p2 hp2 => ?_⟩
      have s2 := same_new (o := HO.lst [V.int bad]) hp2
      refine ⟨_, _, _, _, rfl, rfl, s2 _ _ upd_same, upd_same, (by rw [List.length_map, List.length_take, sizeLine_eq]; simp only [List.length_singleton]; omega), fun p3 hp3 => ?_⟩
      have s3 := same_new (o := HO.lst ((ns1.take a).map V.int ++ [V.int bad])) hp3
      refine ⟨_, rfl, _, rfl, _, _, rfl, rfl, _, rfl, _, _, rfl, SqL.of (s3 _ _ (s2 _ _ (s1 _ _ hD4))), fun p4 hp4 => ?_⟩
      rw [show ((a : Int) + 1) = ((a + 1 : Nat) : Int) by omega, cD]
      have s4 := same_new (o := HO.lst ((ns1.drop (a + 1)).map V.int)) hp4
      refine ⟨_, _, _, _, rfl, rfl, s4 _ _ upd_same, upd_same, (by rw [List.length_append, List.length_map, List.length_map, List.length_take, List.length_drop, sizeLine_eq]; simp only [List.length_singleton]; omega), fun p5 hp5 => ?_⟩
      refine ⟨(by show 2 ≤ sizeLine; decide), fun q hq => ?_⟩
      have e5 : (ns1.take a).map V.int ++ [V.int bad] ++ (ns1.drop (a + 1)).map V.int = (ns1.take a ++ [bad] ++ ns1.drop (a + 1)).map V.int := by rw [List.map_append, List.map_append]; rfl
      refine fin p5 (ns1.take a ++ [bad] ++ ns1.drop (a + 1)) _ _ ?_ (fun z => hbad (z.2 bad (by simp))) hp5 (((s1.trans s2).trans s3).trans s4) (same_new hp5) ?_ q hq
      · rw [List.length_append, List.length_append, List.length_take, List.length_drop]; simp only [List.length_singleton]; omega
      · rw [upd_same, e5]
    refine ⟨_, rfl, rfl, _, rfl, ite2 (fun _ => ?_) (fun _ => ?_)⟩
    · refine ⟨_, rfl, _, rfl, _, rfl, _, _, rfl, SqL.of hD4, fun p1 hp1 => ?_⟩
      rw [cT]
      refine ⟨(by show 2 ≤ sizeLine; decide), fun q hq => ?_⟩
      exact fin p1 (ns1.take a) _ _ (by rw [List.length_take]; omega) (fun z => by have := z.1; rw [List.length_take] at this; omega) hp1 (Same.refl _) (same_new hp1) upd_same q hq
    refine ⟨_, rfl, rfl, _, rfl, ite2 (fun _ => ?_) (fun _ => ?_)⟩
    · refine ⟨_, rfl, _, rfl, _, rfl, _, rfl, _, _, rfl, SqL.of hD4, fun p1 hp1 => ?_⟩
      rw [cD]
      have s1 := same_new (o := HO.lst ((ns1.drop a).map V.int)) hp1
      refine ⟨_, _, _, _, rfl, rfl, s1 _ _ hD4, upd_same, (by rw [List.length_map, List.length_map, List.length_drop, sizeLine_eq]; omega), fun p2 hp2 => ?_⟩
      refine ⟨(by show 2 ≤ sizeLine; decide), fun q hq => ?_⟩
      refine fin p2 (ns1 ++ ns1.drop a) _ _ (by rw [List.length_append, List.length_drop]; omega) (fun z => by have := z.1; rw [List.length_append, List.length_drop] at this; omega) hp2 s1 (same_new hp2) ?_ q hq
      rw [upd_same, List.map_append]
    refine ⟨_, rfl, (by show 2 ≤ sizeLine; decide), fun q hq => ?_⟩
    have sq := same_new (o := HO.lst [V.ref D, V.bl true]) hq
    exact k q (.ref D) ns1 true τd _ upd_same ⟨by omega, ⟨fun _ => ok1, fun _ => rfl⟩, .inr ⟨D, rfl, tDD, sq _ _ hD4⟩⟩ (T4.same sq) tgH (k4.trans (.of_same sq))

/-! a run, the next hand any that waits -/
/-- what stays while the spring at r is drawn from and the things of i change -/
structure Fr (i : Nat) (r : Addr) (τ : Tg) (H H' : Hp) : Prop where
  k : ∀ x u, H x = some u → x ≠ r → (τ x).head? ≠ some i → H' x = some u
  t : ∀ x xs, H x = some (.tup xs) → H' x = some (.tup xs)
theorem Fr.trans {i : Nat} {r : Addr} {τ : Tg} {H H1 H2 : Hp} (a : Fr i r τ H H1) (b : Fr i r τ H1 H2) : Fr i r τ H H2 := ⟨fun x u e n m => b.k _ _ (a.k _ _ e n m) n m, fun x xs e => b.t _ _ (a.t _ _ e)⟩
theorem Fr.same {i : Nat} {r : Addr} {τ : Tg} {H H' : Hp} (k : Same H H') : Fr i r τ H H' := ⟨fun x u e _ _ => k _ _ e, k.tups⟩
theorem Fr.draw {i : Nat} {r : Addr} {τ : Tg} {H H' : Hp} (T : ST τ H r) (k : Kp r H H') : Fr i r τ H H' := ⟨fun x u e n _ => k _ _ e n, T.S.tups k⟩
theorem Fr.stp {i : Nat} {r : Addr} {τ : Tg} {H H' : Hp} (k : Stp i τ H H') : Fr i r τ H H' := ⟨fun x u e _ m => k.keep _ _ e m, k.tup⟩
/-- a new list is written -/
theorem Fr.newly {i : Nat} {r a : Addr} {τ : Tg} {H H1 : Hp} {xs ys : List V} (f : Fr i r τ H H1) (ha : H a = none) (e1 : H1 a = some (.lst xs)) : Fr i r τ H (upd H1 a (.lst ys)) := ⟨fun x u e n m => by rw [upd_ne (ne_of_none e ha)]; exact f.k _ _ e n m, fun x zs e => by rw [upd_ne (ne_of_none e ha)]; exact f.t _ _ e⟩
theorem Fr.mv {i j : Nat} {r : Addr} {τ : Tg} {H H' : Hp} (f : Fr i r τ H H') (T : ST τ H r) (n : j ≠ i) (i0 : i ≠ 0) : Mv j τ H τ H' := ⟨fun x u e t => ⟨f.k _ _ e (T.ne (by
  rcases t with t | t
  · rw [t]; simp
  · intro z; rw [z] at t; cases t)) (by
  rcases t with t | t
  · rw [t]; exact fun z => i0 (Option.some.inj z).symm
  · rw [t]; exact fun z => n (Option.some.inj z)), rfl⟩, f.t⟩

def spOrder18 (CW CH : Addr) (K : PySem.W.Frag) : Sp := fun vs H Q _ => ∃ (r : Addr) (i : Nat) (τ : Tg) (W : WAd) (S : WkS) (mo : Int), vs = [.ref r, .ref W.o, .int mo] ∧ 0 ≤ mo ∧ mo ≤ 300 ∧ ST τ H r ∧ WAt CW CH i τ H W S ∧ S.ts = [] ∧ S.hs.length ≤ 8 ∧
  ∀ (o : Addr) (l : List Tc) (S' : WkS) (H' : Hp), H o = none → Run S l S' → l.length ≤ 300 → H' o = some (.lst (kOf l)) → ST τ H' r → Fr i r τ H H' → Q (.ref o) H'
theorem kOf_snoc (l : List Tc) (t : Tc) : kOf l ++ [V.int (t.k : Int)] = kOf (l ++ [t]) := by unfold kOf; rw [List.map_append]; rfl
theorem menu301 {mo : Int} (h0 : 0 ≤ mo) (h1 : mo ≤ 300) (b1 b2 : Bool) : ∃ v : Int, atI [V.int 31, V.int 101, V.int (mo + 1)] ((if b1 then 1 else 0) + (if b2 then 1 else 0)) = some (V.int v) ∧ 0 < v ∧ v ≤ 301 := by
  cases b1 <;> cases b2
  · exact ⟨31, rfl, by decide, by decide⟩
  · exact ⟨101, rfl, by decide, by decide⟩
  · exact ⟨101, rfl, by decide, by decide⟩
  · exact ⟨mo + 1, rfl, by omega, by omega⟩
theorem ok_order18 {C_Works C_Hand C_NoHand C_Over : Addr} {f : Addr} {fd : FuncData} (F : Fun K "_law_order" "_law_order" s_Lorder f fd) (F_Ldraw : FnAt P w K mg base 1 "_law_draw" ["spring", "many"] (spDraw K)) (M_Works_counts : MethAt P w K mg base 1 C_Works "counts" ["self"] (spCounts C_Works C_Hand K)) (M_Works_how : MethAt P w K mg base 4 C_Works "how" ["self", "hand"] (fun vs H Q _ => spHow C_Works C_Hand C_NoHand K vs H Q fun _ _ _ => False)) (M_Works_turn : MethAt P w K mg base 7 C_Works "turn" ["self", "hand"] (fun vs H Q _ => spTurn C_Works C_Hand C_NoHand C_Over K vs H Q fun _ _ _ => False)) (Z_Works : Cl_Works K C_Works) (Bt : Blt mg) : FnOk P w K mg base CX0 8 f fd ["spring", "works", "most"] (spOrder18 C_Works C_Hand K) := by
  refine F.ok sc_Lorder (fun vs H Q E h => ?_) (fun cdv A outer s H vs Q E hr h => ?_)
  · obtain ⟨r, i, τ, W, S, mo, rfl, _⟩ := h
    rfl
  · obtain ⟨r, i, τ, W, S, mo, rfl, mo0, mo1, T, w, ts0, h8, k⟩ := h
    have hu64 := hr.units
    refine ⟨_, (pss_cons (ps_set (i := 3) sc_Lorder.nd rfl (Or.inl rfl) (pe_fn F_Ldraw (hr.mono (by decide)) (by rfl) (pa_cons (pv 0) (pa_cons pe_int pa_nil))))
      (pss_cons (ps_set (i := 4) sc_Lorder.nd rfl (Or.inl rfl) (pe_lst pa_nil))
      (pss_cons (ps_for PassesOwn.never rfl (pi_range1 (by rfl) Bt.b_range (pa_cons (pe_fn F_Ldraw (hr.mono (by decide)) (by rfl) (pa_cons (pv 0) (pa_cons (pe_ix (ix_listK (K := K) rfl) (pe_lst (pa_cons pe_int (pa_cons pe_int (pa_cons (pe_op op_add (pv 2) pe_int) pa_nil)))) (pe_op op_add (pe_callTy call_int1 (by rfl) Bt.b_int bt_int (pa_cons (pe_cmpR op_eq (pe_op op_mod (pv 3) pe_int) pe_int (nomark _)) pa_nil)) (pe_callTy call_int1 (by rfl) Bt.b_int bt_int (pa_cons (pe_cmpR op_eq (pv 3) pe_int (nomark _)) pa_nil))) (fun _ _ => rfl)) pa_nil))) pa_nil)) (pg_name (i := 5) sc_Lorder.nd rfl (Or.inl rfl))
      (pss_cons (ps_setC (i := 6) rfl sc_Lorder.nd rfl (Or.inl rfl) (N := ["hand", "works"]) (own := ["hand"]) (caps := [1]) (CompScope.of (by kernel_rfl)) (pi_range1 (by rfl) Bt.b_range (pa_cons (pe_callB (call_len_seqK (K := K) rfl) (by rfl) Bt.b_len bt_len (pa_cons (pe_methA0 M_Works_counts Z_Works.cls (hr.mono (by decide)) (pv 1)) pa_nil)) pa_nil)) (fun _ _ _ _ => (pg_name (i := 0) (show List.Nodup (["hand", "works"] : List Str) by decide +kernel) rfl (Or.inl rfl))) (fun _ _ _ _ => (pts_one (pt_cmpR op_eq (pe_methA M_Works_how Z_Works.cls (hr.mono (by decide)) (pv 1) (pa_cons (pv 0) pa_nil)) pe_str (nomark _)))) (fun _ _ _ _ => (pv 0)))
      (pss_one (ps_if (pt_cmpR (op_neDK (K := K) rfl hu64) (pv 6) (pe_lst pa_nil) (nomark _)) (pss_cons (ps_expr (pe_appendK (K := K) rfl (pv 4) (pa_cons (pe_ix (ix_listK (K := K) rfl) (pv 6) (pe_fn F_Ldraw (hr.mono (by decide)) (by rfl) (pa_cons (pv 0) (pa_cons (pe_callB (call_len_seqK (K := K) rfl) (by rfl) Bt.b_len bt_len (pa_cons (pv 6) pa_nil)) pa_nil))) (fun _ _ => rfl)) pa_nil)))
      (pss_one (ps_expr (pe_methA M_Works_turn Z_Works.cls (hr.mono (by decide)) (pv 1) (pa_cons (pe_ix (ix_listK (K := K) rfl) (pv 4) (pe_un un_neg pe_int) (fun _ _ => rfl)) pa_nil))))) pss_nil))))
      (pss_one (ps_ret (pv 4)))))), ?_⟩
    refine ⟨_, rfl, r, 32, rfl, T.S, by decide, by decide, fun sh H1 z0 z1 R1 k1 => ?_⟩
    have T1 := T.draw k1 R1
    have w1 := w.mv (T.kr k1) T1.un
    have q1 : Fr i r τ H H1 := Fr.draw T k1
    refine ⟨(by show 0 ≤ sizeLine; decide), fun o ho => ?_⟩
    have so := same_new (o := HO.lst []) ho
    have nor : o ≠ r := R1.ne ho
    have to : τ o = [] := T1.un o ho
    have ho0 : H o = none := kp_none k1 nor ho
    have T2 := T1.same so
    have w2 := w1.same so
    have q2 := q1.trans (Fr.same so)
    have eo2 : (upd H1 o (.lst [])) o = some (.lst []) := upd_same
    generalize (upd H1 o (.lst [])) = H2 at T2 w2 q2 eo2 ⊢
    refine ⟨_, rfl, _, rfl, _, _, rfl, rfl, (by show 3 ≤ sizeLine; decide), fun l3 hl3 => ?_⟩
    have sl3 := same_new (o := HO.lst [V.int 31, V.int 101, V.int (mo + 1)]) hl3
    refine ⟨_, rfl, _, _, rfl, rfl, (by show (0 : Int) < 8; decide), rfl, .inr ⟨_, rfl, _, rfl, rfl, .inr ⟨_, rfl, _, _, rfl, rfl, ?_⟩⟩⟩
    obtain ⟨n3, en3, n30, n31⟩ := menu301 mo0 mo1 (decide (V.int (sh % 8) = V.int 7)) (decide (V.int sh = V.int 31))
    refine ⟨_, _, _, _, rfl, rfl, SqL.of upd_same, en3, r, n3, rfl, (T2.same sl3).S, n30, by omega, fun mn H4 m0 m1 R4 k4 => ⟨_, rfl, by omega, by omega, ?_⟩⟩
    have T4 := (T2.same sl3).draw k4 R4
    have w4 := (w2.same sl3).mv ((T2.same sl3).kr k4) T4.un
    have q4 := (q2.trans (Fr.same sl3)).trans (Fr.draw (T2.same sl3) k4)
    have eo4 := k4 _ _ (sl3 _ _ eo2) nor
    refine for_range (lo := 0) (n := mn.toNat) (fun j σ Hc => ∃ (x4 x5 : Option V) (l : List Tc) (S1 : WkS), σ = [some (.ref r), some (.ref W.o), some (.int mo), some (.int sh), some (.ref o), x4, x5] ∧ ST τ Hc r ∧ WAt C_Works C_Hand i τ Hc W S1 ∧ Run S l S1 ∧ l.length ≤ j ∧ Hc o = some (.lst (kOf l)) ∧ Fr i r τ H Hc)
      ⟨none, none, [], S, rfl, T4, w4, rfl, Nat.le_refl _, eo4, q4⟩ ?_ ?_
    · rintro j σ Hc hj ⟨x4, x5, l, S1, rfl, Tc', wc, R, lj, eoc, qc⟩
      clear T4 w4 q4 eo4 T2 w2 q2 eo2 T1 w1 q1
      have hl1 : S1.hs.length = S.hs.length := (run_hl R).1
      have tl : S1.ts.length ≤ 10000 := by rw [run_ts R, ts0]; simp; omega
      -- who waits
      refine ⟨_, rfl, W.o, W.dx, _, rfl, wc.o, rfl, i, τ, W, S1, rfl, wc, fun l' H6 f6 e6 s6 => ?_⟩
      have cl : ((cntS S1).map V.int).length = S1.hs.length := by unfold cntS; rw [List.length_map, List.length_map, List.length_range]
      have w6 := wc.same s6
      have T6 := Tc'.same s6
      refine ⟨l', _, rfl, .inl (SqL.of e6), _, rfl, by rw [cl]; omega, by rw [cl]; omega, fun D hD => ?_⟩
      rw [cl, Int.toNat_natCast]
      refine comp_valR (fun z => if waitB S1.hs z then some (.int (z : Nat)) else none) hD (by omega) (fun z H7 G F hz s7 kG kF => ?_) (fun H7 s7 e7 => ?_)
      · have w7 := w6.same s7
        have es : S1.hs[z]? = some S1.hs[z] := by simp [hz]
        have inn : inP ((0 : Int) + z) S1.hs.length := ⟨by omega, by omega⟩
        refine ⟨_, rfl, W.o, W.dx, _, rfl, w7.o, rfl, _, rfl, i, τ, W, S1, _, rfl, w7, fun k3 t3 e3 e3' => ?_, fun z => absurd inn z⟩
        obtain rfl : t3 = S1.hs[z] := by
          have : k3 = z := by omega
          subst this
          rw [es] at e3'
          exact (Option.some.inj e3').symm
        refine ⟨rfl, _, rfl, ?_⟩
        have eb : waitB S1.hs z = decide (S1.hs[z].st = "waits") := by unfold waitB; rw [es]
        rw [eb] at kG kF
        refine ite2 (fun q => ?_) (fun q => ?_)
        · have hq : S1.hs[z].st = Str.ofString "waits" := V.str.inj (of_decide_eq_true q)
          refine ⟨_, rfl, kF _ H7 (Same.refl _) ?_⟩
          rw [decide_eq_true hq, Int.zero_add]
          rfl
        · refine kG H7 (Same.refl _) ?_
          have hq : ¬ S1.hs[z].st = Str.ofString "waits" := fun z => q (decide_eq_true (by rw [z]))
          rw [decide_eq_false hq]
          rfl
      have e7' : H7 D = some (.lst (((waitL S1.hs).map fun k : Nat => (k : Int)).map V.int)) := by
        rw [e7, fm_fil, List.map_map]; rfl
      have w7 := w6.same s7
      have T7 := T6.same s7
      have s67 := s6.trans s7
      have nDr : D ≠ r := T6.S.ne hD
      have eo7 := s67 _ _ eoc
      have q7 := qc.trans (Fr.same s67)
      have wm : (waitL S1.hs).length ≤ 100 := by
        have := List.length_filter_le (waitB S1.hs) (List.range S1.hs.length)
        unfold waitL
        rw [List.length_range] at this
        omega
      refine ⟨_, rfl, (by show 0 ≤ sizeLine; decide), fun z hz => ?_⟩
      have sz := same_new (o := HO.lst []) hz
      refine ⟨_, _, dat_ints (sz _ _ e7'), dat_ints (ns := []) upd_same, shaped_ints _, shaped_ints _, _, rfl, ?_⟩
      rw [eqv_list PyData.int eqv_int]
      by_cases nw : waitL S1.hs = []
      · rw [nw]
        refine iteF ?_
        exact ⟨_, _, l, S1, rfl, T7.same sz, w7.same sz, R, by omega, sz _ _ eo7, q7.trans (Fr.same sz)⟩
      have ne : decide (((waitL S1.hs).map fun k : Nat => (k : Int)) = []) = false := decide_eq_false fun e => nw (List.map_eq_nil_iff.mp e)
      rw [ne]
      refine iteT ?_
      have w8 := w7.same sz
      have T8 := T7.same sz
      have e8 := sz _ _ e7'
      have eo8 := sz _ _ eo7
      have q8 := q7.trans (Fr.same sz)
      generalize (upd H7 z (.lst [])) = H8 at w8 T8 e8 eo8 q8 ⊢
      have wn : 0 < (waitL S1.hs).length := List.length_pos_iff.mpr nw
      refine ⟨_, rfl, .inl ⟨rfl, _, SqL.of eo8⟩, _, rfl, _, rfl, _, rfl, D, _, rfl, .inl (SqL.of e8), r, _, rfl, T8.S, ?_, ?_, fun y H9 y0 y1 R9 k9 => ?_⟩
      · simp; omega
      · simp; omega
      have y1 : y < (waitL S1.hs).length := by simpa using y1
      obtain ⟨y, rfl⟩ := Int.eq_ofNat_of_zero_le y0
      obtain ⟨f, ef⟩ : ∃ f, (waitL S1.hs)[y]? = some f := ⟨_, List.getElem?_eq_getElem (by omega)⟩
      obtain ⟨sf, esf, wsf⟩ := waitL_get ef
      have T9 := T8.draw k9 R9
      have w9 := w8.mv (T8.kr k9) T9.un
      have q9 := q8.trans (Fr.draw T8 k9)
      have eo9 := k9 _ _ eo8 nor
      refine ⟨_, _, _, _, rfl, rfl, SqL.of (k9 _ _ e8 nDr), atI_nat (by rw [List.getElem?_map, List.getElem?_map, ef]; rfl), o, _, _, rfl, rfl, eo9, (by rw [kOf_len, sizeLine_eq]; omega), ?_⟩
      obtain ⟨rw', erw, _⟩ := w9.ok sf (List.mem_of_getElem? esf) wsf
      have at9 : AtT S1 ⟨f, rw', readR S1.ns rw', writR sf.bs rw'⟩ := ⟨sf, esf, wsf, erw, rfl, rfl⟩
      generalize htt : (⟨f, rw', readR S1.ns rw', writR sf.bs rw'⟩ : Tc) = t at at9
      have ft : f = t.k := by rw [← htt]
      rw [ft, kOf_snoc]
      have kk : Kp o H9 (upd H9 o (.lst (kOf (l ++ [t])))) := Kp.set
      have Ta : ST τ (upd H9 o (.lst (kOf (l ++ [t])))) r := ⟨T9.S.keep' kk nor.symm, T9.t, T9.un.dom fun x e => by
        by_cases z : x = o
        · rw [z, upd_same] at e; cases e
        · rw [upd_ne z] at e; exact e⟩
      have wa := w9.kp kk eo9 (by intro xs z; cases z) to ⟨_, upd_same⟩
      have qa := q9.newly (ys := kOf (l ++ [t])) ho0 eo9
      have eoa : (upd H9 o (.lst (kOf (l ++ [t])))) o = some (.lst (kOf (l ++ [t]))) := upd_same
      generalize (upd H9 o (.lst (kOf (l ++ [t])))) = Ha at Ta wa qa eoa ⊢
      refine ⟨_, rfl, W.o, W.dx, _, rfl, wa.o, rfl, _, rfl, _, rfl, _, _, _, _, rfl, rfl, SqL.of eoa, (by rw [← kOf_snoc]; exact atI_last _ _), ?_⟩
      dsimp only [tNil]
      refine turn_run wa tl at9 fun q Hd hq eq wd st => ?_
      refine ⟨_, _, l ++ [t], turnS S1 t.k, rfl, Ta.stp st, wd, Run.app.mpr ⟨S1, R, at9, rfl⟩, by simp; omega, st.keep _ _ eoa (by rw [to]; simp), qa.trans (Fr.stp st)⟩
    · rintro σ Hc ⟨x4, x5, l, S1, rfl, Tc', wc, R, lj, eoc, qc⟩
      exact ⟨_, rfl, k o l S1 Hc ho0 R (by omega) eoc Tc' qc⟩

theorem isi_s_b (K : PySem.W.Frag) : PySem.W.kitOne K (.type "str") (.type "bool") = some false := by kernel_rfl
theorem isi_n_b (K : PySem.W.Frag) : PySem.W.kitOne K (.type "NoneType") (.type "bool") = some false := by kernel_rfl
theorem fm_const' (n : Nat) (v : V) : (List.range n).filterMap (fun _ => some v) = List.replicate n v := by
  induction n with
  | zero => rfl
  | succ n ih => rw [fm_succ, ih, List.replicate_succ']; rfl
/-- data of numbers, texts, None, lists and tuples -/
def PlS : Nat → PyData → Prop
  | 0, _ => False
  | n + 1, .list ds => ds.length ≤ 20000 ∧ ∀ d ∈ ds, PlS n d
  | n + 1, .tuple ds => ds.length ≤ 20000 ∧ ∀ d ∈ ds, PlS n d
  | _ + 1, .int _ => True
  | _ + 1, .str _ => True
  | _ + 1, .none => True
  | _ + 1, _ => False
def spSameL (n : Nat) (K : PySem.W.Frag) : Sp := fun vs H Q _ => ∃ (x y : V) (d : PyData), vs = [x, y] ∧ Dat H x d ∧ Dat H y d ∧ PlS n d ∧ ∀ H', Same H H' → Q (.bl true) H'
theorem ok_sameL0 {f : Addr} {fd : FuncData} (F : Fun K "_law_same" "_law_same" s_Lsame f fd) : FnOk P w K mg base CX0 1 f fd ["found", "due"] (spSameL 0 K) := by
  refine F.ok sc_Lsame (fun vs H Q E h => ?_) (fun cdv A outer s H vs Q E hr h => ?_)
  · obtain ⟨x, y, d, _, _, _, z, _⟩ := h
    exact z.elim
  · obtain ⟨x, y, d, _, _, _, z, _⟩ := h
    exact z.elim
theorem ok_sameLS {n : Nat} {f : Addr} {fd : FuncData} (F : Fun K "_law_same" "_law_same" s_Lsame f fd) (F_Lsame : FnAt P w K mg base (n + 1) "_law_same" ["found", "due"] (spSameL n K)) (Bt : Blt mg) : FnOk P w K mg base CX0 (n + 1 + 1) f fd ["found", "due"] (spSameL (n + 1) K) := by
  refine F.ok sc_Lsame (fun vs H Q E h => ?_) (fun cdv A outer s H vs Q E hr h => ?_)
  · obtain ⟨x, y, d, rfl, _⟩ := h
    rfl
  · obtain ⟨x, y, d, rfl, dx, dy, pl, k⟩ := h
    refine ⟨_, (pss_cons (ps_if (pt_val (pe_callB (call_isiUK (K := K) rfl) (by rfl) Bt.b_isinstance bt_isinstance (pa_cons (pv 1) (pa_cons (pe_tup (pa_cons (pe_bltn (v := .ty "list") (by rfl) Bt.b_list bt_list rfl) (pa_cons (pe_bltn (v := .ty "tuple") (by rfl) Bt.b_tuple bt_tuple rfl) pa_nil))) pa_nil)))) (pss_cons (ps_if (PW.pt (pw_or (pt_cmpR op_ne (pe_callB (call_isiK (K := K) (cv := .ty "list") (c := .type "list") rfl rfl) (by rfl) Bt.b_isinstance bt_isinstance (pa_cons (pv 0) (pa_cons (pe_bltn (v := .ty "list") (by rfl) Bt.b_list bt_list rfl) pa_nil))) (pe_callB (call_isiK (K := K) (cv := .ty "list") (c := .type "list") rfl rfl) (by rfl) Bt.b_isinstance bt_isinstance (pa_cons (pv 1) (pa_cons (pe_bltn (v := .ty "list") (by rfl) Bt.b_list bt_list rfl) pa_nil))) (nomark _)) (pw_or1 (pt_cmpR op_ne (pe_callB (call_isiK (K := K) (cv := .ty "tuple") (c := .type "tuple") rfl rfl) (by rfl) Bt.b_isinstance bt_isinstance (pa_cons (pv 0) (pa_cons (pe_bltn (v := .ty "tuple") (by rfl) Bt.b_tuple bt_tuple rfl) pa_nil))) (pe_callB (call_isiK (K := K) (cv := .ty "tuple") (c := .type "tuple") rfl rfl) (by rfl) Bt.b_isinstance bt_isinstance (pa_cons (pv 1) (pa_cons (pe_bltn (v := .ty "tuple") (by rfl) Bt.b_tuple bt_tuple rfl) pa_nil))) (nomark _))))) (pss_one (ps_ret pe_bl)) pss_nil)
      (pss_one (ps_ret (pe_and (pe_cmpR op_eq (pe_callB (call_len_seqK (K := K) rfl) (by rfl) Bt.b_len bt_len (pa_cons (pv 0) pa_nil)) (pe_callB (call_len_seqK (K := K) rfl) (by rfl) Bt.b_len bt_len (pa_cons (pv 1) pa_nil)) (nomark _)) (pe_one (pe_callB (call_all_boolsK (K := K) rfl rfl) (by rfl) Bt.b_all bt_all (pa_cons (pe_comp rfl (N := ["one", "other"]) (own := ["one", "other"]) (caps := []) (CompScope.of (by kernel_rfl)) (pi_zipA (K := K) rfl (by rfl) Bt.b_zip (pa_cons (pv 0) (pa_cons (pv 1) pa_nil))) (fun _ _ _ _ => (pg_tupK (K := K) (n := 2) rfl rfl (pgs_cons (pg_name (i := 0) (show List.Nodup (["one", "other"] : List Str) by decide +kernel) rfl (Or.inl rfl)) (pgs_cons (pg_name (i := 1) (show List.Nodup (["one", "other"] : List Str) by decide +kernel) rfl (Or.inl rfl)) pgs_nil)))) (fun _ _ _ _ => pts_nil) (fun _ _ _ _ => (pe_fn F_Lsame (hr.mono (Nat.le_refl _)) (by rfl) (pa_cons (pv 0) (pa_cons (pv 1) pa_nil))))) pa_nil))))))) pss_nil)
      (pss_one (ps_ret (pe_and (pe_cmpR op_eq (pe_callB (call_isiK (K := K) (cv := .ty "bool") (c := .type "bool") rfl rfl) (by rfl) Bt.b_isinstance bt_isinstance (pa_cons (pv 0) (pa_cons (pe_bltn (v := .ty "bool") (by rfl) Bt.b_bool bt_bool rfl) pa_nil))) (pe_callB (call_isiK (K := K) (cv := .ty "bool") (c := .type "bool") rfl rfl) (by rfl) Bt.b_isinstance bt_isinstance (pa_cons (pv 1) (pa_cons (pe_bltn (v := .ty "bool") (by rfl) Bt.b_bool bt_bool rfl) pa_nil))) (nomark _)) (pe_one (pe_cmpR op_eq (pv 0) (pv 1) (nomark _))))))), ?_⟩
    refine ⟨_, rfl, (by show 2 ≤ sizeLine; decide), fun p hp => ?_⟩
    have s1 := same_new (o := HO.tup [V.ty "list", V.ty "tuple"]) hp
    match d, pl, dx, dy with
    | .int i, pl, dx, dy =>
      simp only [Dat] at dx dy
      subst dx dy
      refine ⟨_, _, p, ["list", "tuple"], false, rfl, .of (.int i), upd_same, any_lt_int K, _, rfl, iteF ?_⟩
      refine ⟨_, rfl, _, _, false, rfl, .int i, isi_int_bool K, _, rfl, _, _, false, rfl, .int i, isi_int_bool K, rfl, _, rfl, iteT ?_⟩
      refine ⟨_, rfl, _, rfl, rfl, ?_⟩
      rw [decide_eq_true rfl]
      exact k _ s1
    | .str i, pl, dx, dy =>
      simp only [Dat] at dx dy
      subst dx dy
      refine ⟨_, _, p, ["list", "tuple"], false, rfl, .str i, upd_same, any_lt_str K, _, rfl, iteF ?_⟩
      refine ⟨_, rfl, _, _, false, rfl, .str i, isi_s_b K, _, rfl, _, _, false, rfl, .str i, isi_s_b K, rfl, _, rfl, iteT ?_⟩
      refine ⟨_, rfl, _, rfl, rfl, ?_⟩
      rw [decide_eq_true rfl]
      exact k _ s1
    | .none, pl, dx, dy =>
      simp only [Dat] at dx dy
      subst dx dy
      refine ⟨_, _, p, ["list", "tuple"], false, rfl, .non, upd_same, any_lt_non K, _, rfl, iteF ?_⟩
      refine ⟨_, rfl, _, _, false, rfl, .non, isi_n_b K, _, rfl, _, _, false, rfl, .non, isi_n_b K, rfl, _, rfl, iteT ?_⟩
      refine ⟨_, rfl, _, rfl, rfl, ?_⟩
      rw [decide_eq_true rfl]
      exact k _ s1
    | .list ds, pl, dx, dy =>
      simp only [Dat] at dx dy
      obtain ⟨a, vs, rfl, ha, da⟩ := dx
      obtain ⟨b, ws, rfl, hb, db⟩ := dy
      have la : vs.length = ds.length := da.length
      have lb : ws.length = ds.length := db.length
      have pl1 : ds.length ≤ 20000 := pl.1
      have ha1 := s1 _ _ ha
      have hb1 := s1 _ _ hb
      refine ⟨_, _, p, ["list", "tuple"], true, rfl, .of (.lst hb1), upd_same, any_lt_list K, _, rfl, iteT ?_⟩
      refine ⟨_, rfl, _, _, true, rfl, .lst ha1, isi_list_list K, _, rfl, _, _, true, rfl, .lst hb1, isi_list_list K, rfl, _, rfl, iteNS rfl ?_⟩
      refine ⟨_, rfl, _, _, false, rfl, .lst ha1, isi_list_tuple K, _, rfl, _, _, false, rfl, .lst hb1, isi_list_tuple K, rfl, _, rfl, iteNS rfl ?_⟩
      refine ⟨_, rfl, a, _, rfl, .inl (SqL.of ha1), _, rfl, b, _, rfl, .inl (SqL.of hb1), rfl, _, rfl, ?_⟩
      refine ite2 (fun _ => ?_) (fun z => absurd (decide_eq_true (by rw [la, lb])) z)
      refine ⟨_, rfl, _, rfl, a, b, vs, ws, rfl, .inl ⟨SqL.of ha1, SqL.of hb1, fun D hD => ?_⟩⟩
      refine comp_valZ (K := K) la lb (fun i => some (.bl true)) hD (SqL.of ha1) (SqL.of hb1) (by omega) (fun i x y H2 G F hx hy s2 kG kF => ?_) (fun H2 s2 e2 => ?_)
      · obtain ⟨d, ed, dx⟩ := da.get hx
        obtain ⟨d', ed', dy⟩ := db.get hy
        rw [ed] at ed'
        cases ed'
        exact ⟨_, rfl, _, rfl, x, y, d, rfl, dx.same (s1.trans s2) d, dy.same (s1.trans s2) d, pl.2 d (List.mem_of_getElem? ed), fun H3 s3 => kF _ H3 s3 rfl⟩
      · rw [fm_const'] at e2
        refine ⟨D, List.replicate ds.length true, rfl, SqL.of (by rw [e2, List.map_replicate]), ?_⟩
        rw [show (List.replicate ds.length true).all id = true by simp]
        exact k H2 (s1.trans s2)
    | .tuple ds, pl, dx, dy =>
      simp only [Dat] at dx dy
      obtain ⟨a, vs, rfl, ha, da⟩ := dx
      obtain ⟨b, ws, rfl, hb, db⟩ := dy
      have la : vs.length = ds.length := da.length
      have lb : ws.length = ds.length := db.length
      have pl1 : ds.length ≤ 20000 := pl.1
      have ha1 := s1 _ _ ha
      have hb1 := s1 _ _ hb
      refine ⟨_, _, p, ["list", "tuple"], true, rfl, .of (.tup hb1), upd_same, any_lt_tuple K, _, rfl, iteT ?_⟩
      refine ⟨_, rfl, _, _, false, rfl, .tup ha1, isi_tuple_list K, _, rfl, _, _, false, rfl, .tup hb1, isi_tuple_list K, rfl, _, rfl, iteNS rfl ?_⟩
      refine ⟨_, rfl, _, _, true, rfl, .tup ha1, isi_tuple_tuple K, _, rfl, _, _, true, rfl, .tup hb1, isi_tuple_tuple K, rfl, _, rfl, iteNS rfl ?_⟩
      refine ⟨_, rfl, a, _, rfl, .inr (SqT.of ha1), _, rfl, b, _, rfl, .inr (SqT.of hb1), rfl, _, rfl, ?_⟩
      refine ite2 (fun _ => ?_) (fun z => absurd (decide_eq_true (by rw [la, lb])) z)
      refine ⟨_, rfl, _, rfl, a, b, vs, ws, rfl, .inr ⟨SqT.of ha1, SqT.of hb1, fun D hD => ?_⟩⟩
      refine comp_valZT (K := K) la lb (fun i => some (.bl true)) hD ha1 hb1 (by omega) (fun i x y H2 G F hx hy s2 kG kF => ?_) (fun H2 s2 e2 => ?_)
      · obtain ⟨d, ed, dx⟩ := da.get hx
        obtain ⟨d', ed', dy⟩ := db.get hy
        rw [ed] at ed'
        cases ed'
        exact ⟨_, rfl, _, rfl, x, y, d, rfl, dx.same (s1.trans s2) d, dy.same (s1.trans s2) d, pl.2 d (List.mem_of_getElem? ed), fun H3 s3 => kF _ H3 s3 rfl⟩
      · rw [fm_const'] at e2
        refine ⟨D, List.replicate ds.length true, rfl, SqL.of (by rw [e2, List.map_replicate]), ?_⟩
        rw [show (List.replicate ds.length true).all id = true by simp]
        exact k H2 (s1.trans s2)

theorem pls_web (ws : List Tch) (h : ws.length ≤ 20000) : PlS 4 (.list (ws.map tD)) := ⟨by rw [List.length_map]; exact h, fun d hd => by
  obtain ⟨x, _, rfl⟩ := List.mem_map.mp hd
  refine ⟨by show 3 ≤ 20000; decide, fun d hd => ?_⟩
  simp only [List.mem_cons, List.not_mem_nil, or_false] at hd
  rcases hd with rfl | rfl | rfl <;> trivial⟩
theorem pls_oD (n : Nat) (x : Option Int) : PlS (n + 1) (oD x) := by cases x <;> trivial
theorem pls_rows {l : List Tc} {n : Nat} (h : l.length ≤ 20000) (hn : n ≤ 20000) : PlS 4 (rowsTD l n) := ⟨by rw [List.length_map, List.length_range]; exact hn, fun d hd => by
  obtain ⟨k, _, rfl⟩ := List.mem_map.mp hd
  refine ⟨?_, fun d hd => ?_⟩
  · rw [List.length_map]
    exact Nat.le_trans (List.length_filter_le _ _) h
  · obtain ⟨t, _, rfl⟩ := List.mem_map.mp hd
    refine ⟨by show 4 ≤ 20000; decide, fun d hd => ?_⟩
    simp only [List.mem_cons, List.not_mem_nil, or_false] at hd
    rcases hd with rfl | rfl | rfl | rfl
    · trivial
    · trivial
    · exact pls_oD _ _
    · exact pls_oD _ _⟩

/-! ### data of programs -/
def prgD (m : Nat) (rws : List (List Rw)) : PyData := .tuple [.int m, .list (rws.map rowsD)]
theorem PgH.dat {H : Hp} {p L : Addr} {rs : List Addr} {rws : List (List Rw)} {m : Nat} (g : PgH H p L rs rws m) : Dat H (.ref p) (prgD m rws) := by
  have go : ∀ (rs : List Addr) (rws : List (List Rw)), rs.length = rws.length → (∀ (k : Nat) (r : Addr) (x : List Rw), rs[k]? = some r → rws[k]? = some x → RowsH H r m x) → Dats H (rs.map V.ref) (rws.map rowsD) := by
    intro rs
    induction rs with
    | nil =>
      intro rws hl _
      cases rws with
      | nil => simp [Dats]
      | cons x l => cases hl
    | cons r rs ih =>
      intro rws hl h
      cases rws with
      | nil => cases hl
      | cons x l =>
        simp only [List.map_cons, Dats]
        refine ⟨?_, ih l (Nat.succ.inj hl) fun k r' x' h1 h2 => h (k + 1) r' x' h1 h2⟩
        obtain ⟨ts, e, d, _⟩ := h 0 r x rfl rfl
        exact dat_list e d
  unfold prgD
  simp only [Dat]
  refine ⟨p, _, rfl, g.ep, ?_⟩
  simp only [Dats, Dat, and_true, true_and]
  exact ⟨L, _, rfl, g.eL, go rs rws g.len g.row⟩
theorem PgH.ok {H : Hp} {p L : Addr} {rs : List Addr} {rws : List (List Rw)} {m : Nat} (g : PgH H p L rs rws m) : ∀ x ∈ rws, ∀ r ∈ x, rwOk m r := fun x hx r hr => by
  obtain ⟨k, kl, rfl⟩ := List.mem_iff_getElem.mp hx
  have kl' : k < rs.length := by rw [g.len]; exact kl
  obtain ⟨_, _, _, h, _⟩ := g.row k rs[k] rws[k] (by simp [kl']) (by simp [kl])
  exact h r hr
def hndD (m : Nat) (rws : List (List Rw)) (os : List Int) (nd : PyData) : PyData := .tuple [prgD m rws, intsD os, nd]
theorem shaped_hnd {m : Nat} {rws : List (List Rw)} {os : List Int} {nd : PyData} (h : ∀ x ∈ rws, ∀ r ∈ x, rwOk m r) (hn : nd.canLay0 = true ∧ nd.depth ≤ 1) : SeqAt.shaped (hndD m rws os nd) = true := by
  obtain ⟨a1, b1⟩ := can_ints os
  obtain ⟨a2, b2⟩ := hn
  have a4 : PyData.canLay0 (.list (rws.map rowsD)) = true := canAll_map rowsD rws fun x hx => (can_rows (h x hx)).1
  have b4 := depthAll_map rowsD 4 rws fun x hx => (can_rows (h x hx)).2
  have e1 : PyData.canLay0 (hndD m rws os nd) = true := by
    show ((true && (PyData.canLay0 (.list (rws.map rowsD)) && true)) && (PyData.canLay0 (intsD os) && (nd.canLay0 && true))) = true
    rw [a1, a2, a4]; rfl
  have e2 : PyData.depth (hndD m rws os nd) ≤ 64 := by
    show max (max 0 (max (PyData.depthAll (rws.map rowsD) + 1) 0) + 1) (max (intsD os).depth (max nd.depth 0)) + 1 ≤ 64
    omega
  unfold SeqAt.shaped
  rw [e1, decide_eq_true e2]; rfl
/-- the numbers as data -/
def NumB (H : Hp) (nv : V) (ns : List Int) (nd : PyData) : Prop := (nv = .non ∧ nd = .none) ∨ ∃ cl, nv = .ref cl ∧ H cl = some (.lst (ns.map V.int)) ∧ nd = intsD ns
theorem NumB.same {H H' : Hp} {nv : V} {ns : List Int} {nd : PyData} (h : NumB H nv ns nd) (k : Same H H') : NumB H' nv ns nd := h.elim .inl fun ⟨cl, e, q, d⟩ => .inr ⟨cl, e, k _ _ q, d⟩
theorem NumB.dat {H : Hp} {nv : V} {ns : List Int} {nd : PyData} (h : NumB H nv ns nd) : Dat H nv nd := by
  rcases h with ⟨rfl, rfl⟩ | ⟨cl, rfl, e, rfl⟩
  · simp only [Dat]
  · exact dat_ints e
theorem NumB.can {H : Hp} {nv : V} {ns : List Int} {nd : PyData} (h : NumB H nv ns nd) : nd.canLay0 = true ∧ nd.depth ≤ 1 := by
  rcases h with ⟨rfl, rfl⟩ | ⟨cl, rfl, e, rfl⟩
  · exact ⟨rfl, by decide⟩
  · exact can_ints ns
theorem dat_hnd {H : Hp} {t p L o : Addr} {rs : List Addr} {rws : List (List Rw)} {m : Nat} {nv : V} {ns os : List Int} {nd : PyData} (e : H t = some (.tup [.ref p, .ref o, nv])) (g : PgH H p L rs rws m) (eo : H o = some (.lst (os.map V.int))) (b : NumB H nv ns nd) : Dat H (.ref t) (hndD m rws os nd) := by
  unfold hndD
  simp only [Dat]
  refine ⟨t, _, rfl, e, ?_⟩
  simp only [Dats, and_true]
  exact ⟨g.dat, dat_ints eo, b.dat⟩
/-- a copy of the hands' rows, being made -/
structure Cpy (H : Hp) (D : Addr) (as : List Addr) (rws : List (List Rw)) (m : Nat) : Prop where
  d : H D = some (.lst (as.map V.ref))
  r : ∀ (k : Nat) (q : Addr) (x : List Rw), as[k]? = some q → rws[k]? = some x → q ≠ D ∧ RowsH H q m x
/-! what is told, as data -/
def wdD (good : Bool) (st : Option Bool) (l : List Tc) : PyData := match good, st with
  | true, none => .list ((l.map webT).map tD)
  | _, _ => .none
def rdD (good : Bool) (st : Option Bool) (l : List Tc) (n : Nat) : PyData := match good, st with
  | true, none => rowsTD l n
  | _, _ => .none
theorem dat_web {H : Hp} {a : Addr} {ws : List Tch} (h : WebAt H a ws) : Dat H (.ref a) (.list (ws.map tD)) := by
  obtain ⟨refs, e, d⟩ := h
  exact dat_list e d
theorem wd_dat {H : Hp} {fv : V} {good : Bool} {st : Option Bool} {l : List Tc} (h1 : good = true → st = none → ∃ a, fv = .ref a ∧ WebAt H a (l.map webT)) (h2 : ¬ (good = true ∧ st = none) → fv = .non) : Dat H fv (wdD good st l) := by
  cases good with
  | false => rw [h2 (by simp)]; simp only [wdD, Dat]
  | true =>
    cases st with
    | none => obtain ⟨a, rfl, W⟩ := h1 rfl rfl; exact dat_web W
    | some b => rw [h2 (by simp)]; simp only [wdD, Dat]
theorem rd_dat {H : Hp} {fv : V} {good : Bool} {st : Option Bool} {l : List Tc} {n : Nat} (h1 : good = true → st = none → ∃ D as, fv = .ref D ∧ as.length = n ∧ RwT H D as l) (h2 : ¬ (good = true ∧ st = none) → fv = .non) : Dat H fv (rdD good st l n) := by
  cases good with
  | false => rw [h2 (by simp)]; simp only [rdD, Dat]
  | true =>
    cases st with
    | none => obtain ⟨D, as, rfl, rfl, W⟩ := h1 rfl rfl; exact W.dat
    | some b => rw [h2 (by simp)]; simp only [rdD, Dat]
theorem pls_wd {good : Bool} {st : Option Bool} {l : List Tc} (h : l.length ≤ 20000) : PlS 4 (wdD good st l) := by
  cases good with
  | false => trivial
  | true =>
    cases st with
    | none => exact pls_web _ (by rw [List.length_map]; exact h)
    | some b => trivial
theorem pls_rd {good : Bool} {st : Option Bool} {l : List Tc} {n : Nat} (h : l.length ≤ 20000) (hn : n ≤ 20000) : PlS 4 (rdD good st l n) := by
  cases good with
  | false => trivial
  | true =>
    cases st with
    | none => exact pls_rows h hn
    | some b => trivial
theorem pls_pair {w' : Str} {d : PyData} (h : PlS 4 d) : PlS 5 (.tuple [.str w', d]) := ⟨by show 2 ≤ 20000; decide, fun x hx => by
  simp only [List.mem_cons, List.not_mem_nil, or_false] at hx
  rcases hx with rfl | rfl
  · trivial
  · exact h⟩
theorem dat_pair {H : Hp} {t : Addr} {w' : Str} {v : V} {d : PyData} (e : H t = some (.tup [.str w', v])) (h : Dat H v d) : Dat H (.ref t) (.tuple [.str w', d]) := by
  simp only [Dat]
  refine ⟨t, _, rfl, e, ?_⟩
  simp only [Dats, Dat, and_true, true_and]
  exact h

/-! ### the law -/
structure L18 (r p L : Addr) (rs : List Addr) (rws : List (List Rw)) (m : Nat) (nv : V) (ns : List Int) (good : Bool) (o : Addr) (os : List Int) (τ : Tg) (H : Hp) : Prop where
  T : ST τ H r
  g : Pg τ H p L rs rws m
  n : NumT τ H m nv ns good
  eo : H o = some (.lst (os.map V.int))
  no : o ≠ r
theorem L18.same {r p L : Addr} {rs : List Addr} {rws : List (List Rw)} {m : Nat} {nv : V} {ns : List Int} {good : Bool} {o : Addr} {os : List Int} {τ : Tg} {H H' : Hp} (h : L18 r p L rs rws m nv ns good o os τ H) (k : Same H H') : L18 r p L rs rws m nv ns good o os τ H' := ⟨h.T.same k, h.g.same k, h.n.mv (Mv.of_same (i := 0) k), k _ _ h.eo, h.no⟩
theorem L18.draw {r p L : Addr} {rs : List Addr} {rws : List (List Rw)} {m : Nat} {nv : V} {ns : List Int} {good : Bool} {o : Addr} {os : List Int} {τ : Tg} {H H' : Hp} (h : L18 r p L rs rws m nv ns good o os τ H) (k : Kp r H H') (S : SpringOk H' r) : L18 r p L rs rws m nv ns good o os τ H' := ⟨h.T.draw k S, h.g.mv (h.T.kr (i := 0) k), h.n.mv (h.T.kr (i := 0) k), k _ _ h.eo h.no, h.no⟩
theorem L18.put {r p L : Addr} {rs : List Addr} {rws : List (List Rw)} {m : Nat} {nv : V} {ns : List Int} {good : Bool} {o o' : Addr} {os os' : List Int} {τ : Tg} {H H' : Hp} (h : L18 r p L rs rws m nv ns good o os τ H) (k : Same H H') (e : H' o' = some (.lst (os'.map V.int))) (n : o' ≠ r) : L18 r p L rs rws m nv ns good o' os' τ H' := ⟨h.T.same k, h.g.same k, h.n.mv (Mv.of_same (i := 0) k), e, n⟩
theorem cut_ints (os : List Int) (a : Nat) : cutV (os.map V.int) none (some (a : Int)) = (os.take a).map V.int := by rw [cut_take, List.map_take]
theorem cut_intsD (os : List Int) (a : Nat) : cutV (os.map V.int) (some (a : Int)) none = (os.drop a).map V.int := by rw [cut_drop, List.map_drop]
theorem strange_at (x y sy : Int) (y0 : 0 ≤ y) (y1 : y < 8) (s0 : 0 ≤ sy) (s1 : sy < 3) : ∃ v : Int, atI [V.int (x - 3), V.int (10 ^ ((29 : Int).toNat)), V.int (0 - 10 ^ ((29 : Int).toNat))] (y / 6 * (1 + sy % 2)) = some (.int v) := by
  have a : y / 6 = 0 ∨ y / 6 = 1 := by omega
  have b : sy % 2 = 0 ∨ sy % 2 = 1 := by omega
  rcases a with a | a <;> rcases b with b | b <;> rw [a, b]
  · exact ⟨_, rfl⟩
  · exact ⟨_, rfl⟩
  · exact ⟨_, rfl⟩
  · exact ⟨_, rfl⟩
theorem spoil_at (sp : Int) (h0 : 0 ≤ sp) (h1 : sp < 3) : ∃ v : Int, atI [V.int 0, V.int 1, V.int 3] sp = some (.int v) ∧ 0 ≤ v ∧ v ≤ 3 := by
  have : sp = 0 ∨ sp = 1 ∨ sp = 2 := by omega
  rcases this with rfl | rfl | rfl
  · exact ⟨0, rfl, by decide, by decide⟩
  · exact ⟨1, rfl, by decide, by decide⟩
  · exact ⟨3, rfl, by decide, by decide⟩
theorem num_h {τ : Tg} {H : Hp} {m : Nat} {nv : V} {ns : List Int} (h : NumT τ H m nv ns true) : NumH H nv ns m := ⟨h.2.1.mp rfl, h.2.2.elim .inl fun ⟨l, e, _, q⟩ => .inr ⟨l, e, q⟩⟩
theorem num_a {τ : Tg} {H : Hp} {m : Nat} {nv : V} {ns : List Int} {good : Bool} (h : NumT τ H m nv ns good) : NumA H m nv ns := ⟨h.1, h.2.2.elim .inl fun ⟨l, e, _, q⟩ => .inr ⟨l, e, q⟩⟩
theorem ints_in (os xs : List Int) (a : Nat) : (os.take a).map V.int ++ xs.map V.int ++ (os.drop a).map V.int = (os.take a ++ xs ++ os.drop a).map V.int := by rw [List.map_append, List.map_append]
def ldD : PyData := .tuple [.str "load", .int 0, .int 0, .none]
theorem dat_ld {H : Hp} {u : Addr} (e : H u = some (.tup [.str "load", .int 0, .int 0, .non])) : Dat H (.ref u) ldD := by
  unfold ldD
  simp only [Dat]
  exact ⟨u, _, rfl, e, by simp only [Dats, Dat, and_true, true_and]⟩
theorem imms_ld {l : List Tc} : imms (l.map tcD ++ [ldD]) = true := by
  induction l with
  | nil => rfl
  | cons t l ih => simp only [List.map_cons, List.cons_append, imms, ih, imm_tc, Bool.and_self]
structure RwL (H : Hp) (D : Addr) (as : List Addr) (f : Nat → List PyData) : Prop where
  d : H D = some (.lst (as.map V.ref))
  r : ∀ (h : Nat) (q : Addr), as[h]? = some q → ∃ refs, H q = some (.lst refs) ∧ Dats H refs (f h)
theorem RwL.dat {H : Hp} {D : Addr} {as : List Addr} {f : Nat → List PyData} (h : RwL H D as f) : Dat H (.ref D) (.list ((List.range as.length).map fun h => .list (f h))) := by
  simp only [Dat]
  refine ⟨D, _, rfl, h.d, ?_⟩
  have gen : ∀ n, n ≤ as.length → Dats H ((as.take n).map V.ref) ((List.range n).map fun h => PyData.list (f h)) := by
    intro n
    induction n with
    | zero => intro _; simp [Dats]
    | succ n ih =>
      intro hn
      obtain ⟨refs, e1, d1⟩ := h.r n as[n] (by simp)
      rw [List.take_add_one, List.range_succ, List.map_append, List.map_append, List.getElem?_eq_getElem (by omega)]
      refine dats_snoc (ih (by omega)) ?_
      simp only [Dat]
      exact ⟨_, refs, rfl, e1, d1⟩
  have := gen as.length (Nat.le_refl _)
  rwa [List.take_length] at this
theorem pls_kept {l : List Tc} {n : Nat} (h : l.length ≤ 10000) (hn : n ≤ 20000) : PlS 5 (.list ((List.range n).map fun h => .list ((ofH l h).map tcD ++ [ldD]))) := ⟨by rw [List.length_map, List.length_range]; exact hn, fun d hd => by
  obtain ⟨k, _, rfl⟩ := List.mem_map.mp hd
  refine ⟨?_, fun d hd => ?_⟩
  · rw [List.length_append, List.length_map]
    have : (ofH l k).length ≤ l.length := List.length_filter_le _ _
    simp only [List.length_singleton]
    omega
  · rcases List.mem_append.mp hd with hd | hd
    · obtain ⟨t, _, rfl⟩ := List.mem_map.mp hd
      refine ⟨by show 4 ≤ 20000; decide, fun d hd => ?_⟩
      simp only [List.mem_cons, List.not_mem_nil, or_false] at hd
      rcases hd with rfl | rfl | rfl | rfl
      · trivial
      · trivial
      · exact pls_oD _ _
      · exact pls_oD _ _
    · rw [List.mem_singleton.mp hd]
      refine ⟨by show 4 ≤ 20000; decide, fun d hd => ?_⟩
      simp only [List.mem_cons, List.not_mem_nil, or_false] at hd
      rcases hd with rfl | rfl | rfl | rfl <;> trivial⟩
def spLaw (K : PySem.W.Frag) : Sp := fun vs H Q _ => ∃ (a : Addr) (ns : List Int), vs = [.ref a] ∧ SqL K H a (ns.map V.int) ∧ ns.length ≤ 63 ∧ ∀ H', Q (.bl true) H'
theorem ok_law {C_Works C_Hand C_NoNumber : Addr} {f : Addr} {fd : FuncData} (F : Fun K "law" "law" s_law f fd) (F_Lspring : FnAt P w K mg base 1 "_law_spring" ["script"] (spSpring K)) (F_Ldraw : FnAt P w K mg base 1 "_law_draw" ["spring", "many"] (spDraw K)) (F_Lprogram : FnAt P w K mg base 5 "_law_program" ["spring"] (spProg K)) (F_Lnumbers : FnAt P w K mg base 2 "_law_numbers" ["spring", "room"] (spNum18 K)) (N_Works : MakeAt P w K mg base 7 C_Works "Works" ["self", "program", "cells"] [] (fun vs H Q _ => spWInit C_Works C_Hand C_NoNumber K vs H Q fun _ _ _ => False)) (F_Lorder : FnAt P w K mg base 8 "_law_order" ["spring", "works", "most"] (spOrder18 C_Works C_Hand K)) (F_Ldue : FnAt P w K mg base 9 "_law_due" ["program", "order", "numbers"] (spDue18 K)) (F_Lweb_told : FnAt P w K mg base 10 "_law_web_told" ["program", "order", "numbers", "style"] (spWebTold K)) (F_Ltouches_told : FnAt P w K mg base 10 "_law_touches_told" ["program", "order", "numbers", "style"] (spTchTold K)) (F_Lsame : FnAt P w K mg base 6 "_law_same" ["found", "due"] (spSameL 5 K)) (Bt : Blt mg) : FnOk P w K mg base CX0 11 f fd ["script"] (spLaw K) := by
  refine F.ok sc_law (fun vs H Q E h => ?_) (fun cdv A outer s H vs Q E hr h => ?_)
  · obtain ⟨a, ns, rfl, _⟩ := h
    rfl
  · obtain ⟨sc, ns0, rfl, hs0, hlen, k⟩ := h
    have hu64 := hr.units
    have hcp : CPow 10 29 := ⟨by decide, by decide, by decide⟩
    refine ⟨_, (pss_cons (ps_set (i := 1) sc_law.nd rfl (Or.inl rfl) (pe_fn F_Lspring (hr.mono (by decide)) (by rfl) (pa_cons (pv 0) pa_nil)))
      (pss_cons (ps_set (i := 2) sc_law.nd rfl (Or.inl rfl) (pe_fn F_Ldraw (hr.mono (by decide)) (by rfl) (pa_cons (pv 1) (pa_cons pe_int pa_nil))))
      (pss_cons (ps_set (i := 3) sc_law.nd rfl (Or.inl rfl) (pe_fn F_Ldraw (hr.mono (by decide)) (by rfl) (pa_cons (pv 1) (pa_cons pe_int pa_nil))))
      (pss_cons (ps_set (i := 4) sc_law.nd rfl (Or.inl rfl) (pe_ix (ix_listK (K := K) rfl) (pe_lst (pa_cons (pe_op op_sub (pe_fn F_Ldraw (hr.mono (by decide)) (by rfl) (pa_cons (pv 1) (pa_cons pe_int pa_nil))) pe_int) (pa_cons (pe_op op_pow pe_int pe_int) (pa_cons (pe_op op_sub pe_int (pe_op op_pow pe_int pe_int)) pa_nil)))) (pe_op op_mul (pe_op op_fdiv (pe_fn F_Ldraw (hr.mono (by decide)) (by rfl) (pa_cons (pv 1) (pa_cons pe_int pa_nil))) pe_int) (pe_op op_add pe_int (pe_op op_mod (pv 3) pe_int))) (fun _ _ => rfl)))
      (pss_cons (ps_set (i := 5) sc_law.nd rfl (Or.inl rfl) (pe_fn F_Lprogram (hr.mono (by decide)) (by rfl) (pa_cons (pv 1) pa_nil)))
      (pss_cons (ps_asg (pe_fn F_Lnumbers (hr.mono (by decide)) (by rfl) (pa_cons (pv 1) (pa_cons (pe_ix (ix_tupK (K := K) rfl) (pv 5) pe_int (fun _ _ => rfl)) pa_nil))) (pg_lst2K (K := K) rfl rfl (pgs_cons (pg_name (i := 6) sc_law.nd rfl (Or.inl rfl)) (pgs_cons (pg_name (i := 7) sc_law.nd rfl (Or.inl rfl)) pgs_nil))))
      (pss_cons (ps_set (i := 8) sc_law.nd rfl (Or.inl rfl) (pe_fn F_Lorder (hr.mono (by decide)) (by rfl) (pa_cons (pv 1) (pa_cons (pe_makeA N_Works (hr.mono (by decide)) (by rfl) (pa_cons (pv 5) (pa_cons (pe_ifExp (pt_val (pv 7)) (pv 6) pe_non) pa_nil))) (pa_cons (pe_op op_sub pe_int (pe_ix (ix_listK (K := K) rfl) (pe_lst (pa_cons pe_int (pa_cons pe_int (pa_cons pe_int pa_nil)))) (pv 2) (fun _ _ => rfl))) pa_nil)))))
      (pss_cons (ps_if (pt_cmpR op_gt (pv 2) pe_int (nomark _)) (pss_cons (ps_set (i := 9) sc_law.nd rfl (Or.inl rfl) (pe_fn F_Ldraw (hr.mono (by decide)) (by rfl) (pa_cons (pv 1) (pa_cons (pe_op op_add (pe_callB (call_len_seqK (K := K) rfl) (by rfl) Bt.b_len bt_len (pa_cons (pv 8) pa_nil)) pe_int) pa_nil))))
      (pss_one (ps_set (i := 8) sc_law.nd rfl (Or.inl rfl) (pe_op op_cat (pe_op op_cat (pe_slice (sl_listK (K := K) rfl) (pv 8) po_none (po_some (pv 9))) (pe_lst (pa_cons (pv 4) pa_nil))) (pe_slice (sl_listK (K := K) rfl) (pv 8) (po_some (pv 9)) po_none))))) pss_nil)
      (pss_cons (ps_if (pt_cmpR op_eq (pv 2) pe_int (nomark _)) (pss_cons (ps_set (i := 9) sc_law.nd rfl (Or.inl rfl) (pe_fn F_Ldraw (hr.mono (by decide)) (by rfl) (pa_cons (pv 1) (pa_cons (pe_op op_add (pe_callB (call_len_seqK (K := K) rfl) (by rfl) Bt.b_len bt_len (pa_cons (pv 8) pa_nil)) pe_int) pa_nil))))
      (pss_one (ps_set (i := 8) sc_law.nd rfl (Or.inl rfl) (pe_op op_cat (pe_op op_cat (pe_slice (sl_listK (K := K) rfl) (pv 8) po_none (po_some (pv 9))) (pe_op op_rep (pe_lst (pa_cons (pe_fn F_Ldraw (hr.mono (by decide)) (by rfl) (pa_cons (pv 1) (pa_cons (pe_callB (call_len_seqK (K := K) rfl) (by rfl) Bt.b_len bt_len (pa_cons (pe_ix (ix_tupK (K := K) rfl) (pv 5) pe_int (fun _ _ => rfl)) pa_nil)) pa_nil))) pa_nil)) pe_int)) (pe_slice (sl_listK (K := K) rfl) (pv 8) (po_some (pv 9)) po_none))))) pss_nil)
      (pss_cons (ps_set (i := 10) sc_law.nd rfl (Or.inl rfl) (pe_tup (pa_cons pe_str (pa_cons pe_non (pa_cons pe_non pa_nil)))))
      (pss_cons (ps_if (pt_val (pv 7)) (pss_one (ps_set (i := 10) sc_law.nd rfl (Or.inl rfl) (pe_fn F_Ldue (hr.mono (by decide)) (by rfl) (pa_cons (pv 5) (pa_cons (pv 8) (pa_cons (pv 6) pa_nil)))))) pss_nil)
      (pss_cons (ps_set (i := 11) sc_law.nd rfl (Or.inl rfl) (pe_tup (pa_cons (pe_tup (pa_cons (pe_ix (ix_tupK (K := K) rfl) (pv 5) pe_int (fun _ _ => rfl)) (pa_cons (pe_comp rfl (N := ["rows"]) (own := ["rows"]) (caps := []) (CompScope.of (by kernel_rfl)) (pi_listK (K := K) rfl (pe_ix (ix_tupK (K := K) rfl) (pv 5) pe_int (fun _ _ => rfl))) (fun _ _ _ _ => (pg_name (i := 0) (show List.Nodup (["rows"] : List Str) by decide +kernel) rfl (Or.inl rfl))) (fun _ _ _ _ => pts_nil) (fun _ _ _ _ => (pe_callTy (call_list_ofK (K := K) rfl) (by rfl) Bt.b_list bt_list (pa_cons (pv 0) pa_nil)))) pa_nil))) (pa_cons (pe_callTy (call_list_ofK (K := K) rfl) (by rfl) Bt.b_list bt_list (pa_cons (pv 8) pa_nil)) (pa_cons (pv 6) pa_nil)))))
      (pss_cons (ps_if (pt_cmpR op_notN (pv 6) pe_non (nomark _)) (pss_one (ps_set (i := 11) sc_law.nd rfl (Or.inl rfl) (pe_tup (pa_cons (pe_ix (ix_tupK (K := K) rfl) (pv 11) pe_int (fun _ _ => rfl)) (pa_cons (pe_ix (ix_tupK (K := K) rfl) (pv 11) pe_int (fun _ _ => rfl)) (pa_cons (pe_callTy (call_list_ofK (K := K) rfl) (by rfl) Bt.b_list bt_list (pa_cons (pv 6) pa_nil)) pa_nil)))))) pss_nil)
      (pss_cons (ps_set (i := 12) sc_law.nd rfl (Or.inl rfl) (pe_fn F_Lweb_told (hr.mono (by decide)) (by rfl) (pa_cons (pe_ix (ix_tupK (K := K) rfl) (pv 11) pe_int (fun _ _ => rfl)) (pa_cons (pe_ix (ix_tupK (K := K) rfl) (pv 11) pe_int (fun _ _ => rfl)) (pa_cons (pe_ix (ix_tupK (K := K) rfl) (pv 11) pe_int (fun _ _ => rfl)) (pa_cons (pv 3) pa_nil))))))
      (pss_cons (ps_if (pt_not (pt_val (pe_fn F_Lsame (hr.mono (by decide)) (by rfl) (pa_cons (pv 12) (pa_cons (pe_tup (pa_cons (pe_ix (ix_tupK (K := K) rfl) (pv 10) pe_int (fun _ _ => rfl)) (pa_cons (pe_ix (ix_tupK (K := K) rfl) (pv 10) pe_int (fun _ _ => rfl)) pa_nil))) pa_nil))))) (pss_one (ps_ret pe_bl)) pss_nil)
      (pss_cons (ps_set (i := 12) sc_law.nd rfl (Or.inl rfl) (pe_fn F_Ltouches_told (hr.mono (by decide)) (by rfl) (pa_cons (pe_ix (ix_tupK (K := K) rfl) (pv 11) pe_int (fun _ _ => rfl)) (pa_cons (pe_ix (ix_tupK (K := K) rfl) (pv 11) pe_int (fun _ _ => rfl)) (pa_cons (pe_ix (ix_tupK (K := K) rfl) (pv 11) pe_int (fun _ _ => rfl)) (pa_cons (pv 3) pa_nil))))))
      (pss_cons (ps_if (PW.pt (pw_or (pt_not (pt_val (pe_fn F_Lsame (hr.mono (by decide)) (by rfl) (pa_cons (pv 12) (pa_cons (pe_tup (pa_cons (pe_ix (ix_tupK (K := K) rfl) (pv 10) pe_int (fun _ _ => rfl)) (pa_cons (pe_ix (ix_tupK (K := K) rfl) (pv 10) pe_int (fun _ _ => rfl)) pa_nil))) pa_nil))))) (pw_or1 (pt_cmpR (op_neDK (K := K) rfl hu64) (pv 11) (pe_tup (pa_cons (pv 5) (pa_cons (pv 8) (pa_cons (pv 6) pa_nil)))) (nomark _))))) (pss_one (ps_ret pe_bl)) pss_nil)
      (pss_cons (ps_if (PW.pt (pw_and (pt_val (pv 7)) (pw_and1 (pt_cmpR op_eq (pe_ix (ix_tupK (K := K) rfl) (pv 10) pe_int (fun _ _ => rfl)) pe_str (nomark _))))) (pss_cons (ps_for PassesOwn.never rfl (pi_listK (K := K) rfl (pe_ix (ix_tupK (K := K) rfl) (pv 12) pe_int (fun _ _ => rfl))) (pg_name (i := 13) sc_law.nd rfl (Or.inl rfl))
      (pss_one (ps_expr (pe_appendK (K := K) rfl (pv 13) (pa_cons (pe_tup (pa_cons pe_str (pa_cons pe_int (pa_cons pe_int (pa_cons pe_non pa_nil))))) pa_nil)))))
      (pss_cons (ps_setC (i := 14) rfl sc_law.nd rfl (Or.inl rfl) (N := ["rows"]) (own := ["rows"]) (caps := []) (CompScope.of (by kernel_rfl)) (pi_listK (K := K) rfl (pe_ix (ix_tupK (K := K) rfl) (pv 10) pe_int (fun _ _ => rfl))) (fun _ _ _ _ => (pg_name (i := 0) (show List.Nodup (["rows"] : List Str) by decide +kernel) rfl (Or.inl rfl))) (fun _ _ _ _ => pts_nil) (fun _ _ _ _ => (pe_op op_cat (pv 0) (pe_lst (pa_cons (pe_tup (pa_cons pe_str (pa_cons pe_int (pa_cons pe_int (pa_cons pe_non pa_nil))))) pa_nil)))))
      (pss_one (ps_ret (pe_and (pe_fn F_Lsame (hr.mono (by decide)) (by rfl) (pa_cons (pe_ix (ix_tupK (K := K) rfl) (pv 12) pe_int (fun _ _ => rfl)) (pa_cons (pv 14) pa_nil))) (pe_one (pe_cmpR (op_eqDK (K := K) rfl hu64) (pv 11) (pe_tup (pa_cons (pv 5) (pa_cons (pv 8) (pa_cons (pv 6) pa_nil)))) (nomark _)))))))) pss_nil)
      (pss_one (ps_ret pe_bl)))))))))))))))))))), ?_⟩
    refine ⟨_, rfl, sc, ns0, rfl, hs0, hlen, fun r H1 hr0 R1 s1 => ?_⟩
    refine ⟨_, rfl, r, 3, rfl, R1, by decide, by decide, fun sp H2 sp0 sp1 R2 k2 => ?_⟩
    refine ⟨_, rfl, r, 3, rfl, R2, by decide, by decide, fun sy H3 sy0 sy1 R3 k3 => ?_⟩
    clear k2 k3 s1 hr0 hs0 R1 R2
    -- a strange number
    refine ⟨_, rfl, r, 14, rfl, R3, by decide, by decide, fun x H4 x0 x1 R4 k4 => ⟨_, _, rfl, rfl, ?_⟩⟩
    refine ⟨_, _, rfl, rfl, hcp, _, _, rfl, rfl, hcp, _, _, rfl, rfl, (by show 3 ≤ sizeLine; decide), fun l3 hl3 => ?_⟩
    have sl3 := same_new (o := HO.lst [V.int (x - 3), V.int (10 ^ ((29 : Int).toNat)), V.int (0 - 10 ^ ((29 : Int).toNat))]) hl3
    have nl3 : l3 ≠ r := R4.ne hl3
    refine ⟨_, rfl, r, 8, rfl, R4.keep sl3, by decide, by decide, fun y H5 y0 y1 R5 k5 => ⟨_, _, rfl, rfl, (by show CDiv _ 6; exact ⟨by decide, by decide⟩), ?_⟩⟩
    refine ⟨_, rfl, _, _, rfl, rfl, (by show (0 : Int) < 2; decide), _, _, rfl, rfl, _, _, rfl, rfl, (by show CMul _ _; exact .inl ⟨by omega, by omega⟩), ?_⟩
    obtain ⟨sg, esg⟩ := strange_at x y sy y0 y1 sy0 sy1
    refine ⟨_, _, _, _, rfl, rfl, SqL.of (k5 _ _ upd_same nl3), esg, ?_⟩
    clear k4 k5 R3 R4 esg sl3 hl3
    -- the program, its numbers
    have T5 : ST (fun _ => []) H5 r := ⟨R5, rfl, fun _ _ => rfl⟩
    refine ⟨_, rfl, r, fun _ => [], rfl, T5, fun p L rs rws m τ6 H6 g6 n0 n8 m0 m20 l60 T6 _ _ => ?_⟩
    refine ⟨_, rfl, _, rfl, _, _, _, _, rfl, rfl, SqT.of g6.ep, rfl, r, τ6, m, rfl, T6, m0, m20, fun D nv ns good τ7 H7 eD n7 T7 tg7 kp7 => ?_⟩
    have g7 : Pg τ7 H7 p L rs rws m := g6.mv (i := 0) ⟨fun x u e t => ⟨kp7 _ _ e (T6.ne (by
      rcases t with t | t
      · rw [t]; simp
      · intro z; rw [z] at t; cases t)), tg7 x u e⟩, T6.S.tups kp7⟩
    refine ⟨D, _, _, rfl, SqL.of eD, _, _, rfl, _, _, rfl, rfl, ?_⟩
    clear g6 T6 T5 kp7 tg7 eD
    dsimp only [gName]
    -- the order
    refine seq_cps (fun σ H' => ∃ (o : Addr) (os : List Int) (τ : Tg), σ = [some (.ref sc), some (.ref r), some (.int sp), some (.int sy), some (.int sg), some (.ref p), some nv, some (.bl good), some (.ref o), none, none, none, none, none, none] ∧ L18 r p L rs rws m nv ns good o os τ H' ∧ os.length ≤ 300) (fun D' hD' rt' => ?_) ?_
    · have hl0 : ∀ ns', (begS m ns' rws).hs.length = rws.length := fun ns' => by show (rws.map _).length = _; rw [List.length_map]
      obtain ⟨mo, emo, mo0, mo1⟩ := spoil_at sp sp0 sp1
      refine ⟨_, rfl, _, rfl, _, rfl, _, rfl, ite2 (fun gt => ?_) (fun gf => ?_)⟩
      · subst gt
        refine ⟨_, rfl, ?_⟩
        dsimp only [tNil]
        refine (made_wk (i := 1) (τ := τ7) g7.h (by omega) (by omega) T7.un (by decide) (num_h n7) fun τ8 W8 H8 w8 tg8 s8 => ?_)
        have T8 := T7.made s8 tg8 w8.un
        have m8 : Mv 0 τ7 H7 τ8 H8 := Mv.tags s8 tg8
        refine ⟨(by show 3 ≤ sizeLine; decide), fun l4 hl4 => ?_⟩
        have sl4 := same_new (o := HO.lst [V.int 0, V.int 1, V.int 3]) hl4
        refine ⟨_, rfl, _, _, _, _, rfl, rfl, SqL.of upd_same, emo, _, _, rfl, rfl, ?_⟩
        refine ⟨r, 1, τ8, W8, _, _, rfl, by omega, by omega, T8.same sl4, w8.same sl4, rfl, by rw [hl0]; exact n8, fun o l S' H9 ho R ll eo T9 f9 => ?_⟩
        have nor : o ≠ r := (T8.same sl4).S.ne ho
        have m9 : Mv 0 τ7 H7 τ8 H9 := (m8.trans (Mv.of_same sl4)).trans (f9.mv (T8.same sl4) (by decide) (by decide))
        exact hD' _ _ ⟨o, kI l, τ8, rfl, ⟨T9, g7.mv m9, n7.mv m9, by rw [eo, kOf_kI], nor⟩, by rw [kI_len]; exact ll⟩
      · dsimp only [tNil]
        refine (made_wk (i := 1) (τ := τ7) g7.h (by omega) (by omega) T7.un (by decide) ⟨numOk0 m, .inl ⟨rfl, rfl⟩⟩ fun τ8 W8 H8 w8 tg8 s8 => ?_)
        have T8 := T7.made s8 tg8 w8.un
        have m8 : Mv 0 τ7 H7 τ8 H8 := Mv.tags s8 tg8
        refine ⟨(by show 3 ≤ sizeLine; decide), fun l4 hl4 => ?_⟩
        have sl4 := same_new (o := HO.lst [V.int 0, V.int 1, V.int 3]) hl4
        refine ⟨_, rfl, _, _, _, _, rfl, rfl, SqL.of upd_same, emo, _, _, rfl, rfl, ?_⟩
        refine ⟨r, 1, τ8, W8, _, _, rfl, by omega, by omega, T8.same sl4, w8.same sl4, rfl, by rw [hl0]; exact n8, fun o l S' H9 ho R ll eo T9 f9 => ?_⟩
        have nor : o ≠ r := (T8.same sl4).S.ne ho
        have m9 : Mv 0 τ7 H7 τ8 H9 := (m8.trans (Mv.of_same sl4)).trans (f9.mv (T8.same sl4) (by decide) (by decide))
        exact hD' _ _ ⟨o, kI l, τ8, rfl, ⟨T9, g7.mv m9, n7.mv m9, by rw [eo, kOf_kI], nor⟩, by rw [kI_len]; exact ll⟩
    rintro σ H8 ⟨o, os, τ8, rfl, L8, ol⟩
    clear g7 n7 T7
    -- a strange number put in
    refine seq_cps (fun σ H' => ∃ (x9 : Option V) (o : Addr) (os : List Int), σ = [some (.ref sc), some (.ref r), some (.int sp), some (.int sy), some (.int sg), some (.ref p), some nv, some (.bl good), some (.ref o), x9, none, none, none, none, none] ∧ L18 r p L rs rws m nv ns good o os τ8 H' ∧ os.length ≤ 301) (fun D' hD' rt' => ?_) ?_
    · refine ⟨_, rfl, _, _, rfl, rfl, _, rfl, ite2 (fun _ => ?_) (fun _ => hD' _ _ ⟨none, o, os, rfl, L8, by omega⟩)⟩
      have le : ((os.map V.int).length : Int) = (os.length : Int) := by rw [List.length_map]
      refine ⟨_, rfl, _, rfl, o, _, rfl, .inl (SqL.of L8.eo), _, _, rfl, rfl, r, _, rfl, L8.T.S, by omega, by omega, fun a H9 a0 a1 R9 k9 => ?_⟩
      obtain ⟨a, rfl⟩ := Int.eq_ofNat_of_zero_le a0
      have L9 := L8.draw k9 R9
      refine ⟨_, rfl, _, rfl, _, rfl, _, _, rfl, SqL.of L9.eo, fun p1 hp1 => ?_⟩
      rw [cut_ints]
      have s1 := same_new (o := HO.lst ((os.take a).map V.int)) hp1
      refine ⟨_, rfl, (by show 1 ≤ sizeLine; decide), fun p2 hp2 => ?_⟩
      have s2 := same_new (o := HO.lst [V.int sg]) hp2
      refine ⟨_, _, _, _, rfl, rfl, s2 _ _ upd_same, upd_same, (by rw [List.length_map, List.length_take, sizeLine_eq]; simp only [List.length_singleton]; omega), fun p3 hp3 => ?_⟩
      have s3 := same_new (o := HO.lst ((os.take a).map V.int ++ [V.int sg])) hp3
      refine ⟨_, rfl, _, rfl, _, rfl, _, _, rfl, SqL.of (s3 _ _ (s2 _ _ (s1 _ _ L9.eo))), fun p4 hp4 => ?_⟩
      rw [cut_intsD]
      have s4 := same_new (o := HO.lst ((os.drop a).map V.int)) hp4
      refine ⟨_, _, _, _, rfl, rfl, s4 _ _ upd_same, upd_same, (by rw [List.length_append, List.length_map, List.length_map, List.length_take, List.length_drop, sizeLine_eq]; simp only [List.length_singleton]; omega), fun p5 hp5 => ?_⟩
      have L13 := (((L9.same s1).same s2).same s3).same s4
      refine hD' _ _ ⟨_, p5, os.take a ++ [sg] ++ os.drop a, rfl, L13.put (same_new hp5) ?_ (L13.T.S.ne hp5), ?_⟩
      · rw [upd_same]; exact congrArg _ (congrArg _ (ints_in os [sg] a))
      · rw [List.length_append, List.length_append, List.length_take, List.length_drop]; simp only [List.length_singleton]; omega
    clear L8 ol
    rintro σ H8 ⟨x9, o, os, rfl, L8, ol⟩
    -- two turns put in
    refine seq_cps (fun σ H' => ∃ (x9 : Option V) (o : Addr) (os : List Int), σ = [some (.ref sc), some (.ref r), some (.int sp), some (.int sy), some (.int sg), some (.ref p), some nv, some (.bl good), some (.ref o), x9, none, none, none, none, none] ∧ L18 r p L rs rws m nv ns good o os τ8 H' ∧ os.length ≤ 303) (fun D' hD' rt' => ?_) ?_
    · refine ⟨_, rfl, rfl, _, rfl, ite2 (fun _ => ?_) (fun _ => hD' _ _ ⟨x9, o, os, rfl, L8, by omega⟩)⟩
      have le : ((os.map V.int).length : Int) = (os.length : Int) := by rw [List.length_map]
      refine ⟨_, rfl, _, rfl, o, _, rfl, .inl (SqL.of L8.eo), _, _, rfl, rfl, r, _, rfl, L8.T.S, by omega, by omega, fun a H9 a0 a1 R9 k9 => ?_⟩
      obtain ⟨a, rfl⟩ := Int.eq_ofNat_of_zero_le a0
      have L9 := L8.draw k9 R9
      refine ⟨_, rfl, _, rfl, _, rfl, _, _, rfl, SqL.of L9.eo, fun p1 hp1 => ?_⟩
      rw [cut_ints]
      have s1 := same_new (o := HO.lst ((os.take a).map V.int)) hp1
      have L10 := L9.same s1
      have np1 : p1 ≠ r := L9.T.S.ne hp1
      have e1 : (upd H9 p1 (.lst ((os.take a).map V.int))) p1 = some (.lst ((os.take a).map V.int)) := upd_same
      generalize (upd H9 p1 (.lst ((os.take a).map V.int))) = H10 at L10 e1 ⊢
      have ll : ((rs.map V.ref).length : Int) = (rws.length : Int) := by rw [List.length_map, L10.g.len]
      refine ⟨_, rfl, _, rfl, _, _, _, _, rfl, rfl, SqT.of L10.g.ep, rfl, L, _, rfl, .inl (SqL.of L10.g.eL), r, _, rfl, L10.T.S, by omega, by omega, fun y H11 y0 y1 R11 k11 => ?_⟩
      have L11 := L10.draw k11 R11
      have e11 := k11 _ _ e1 np1
      refine ⟨(by show 1 ≤ sizeLine; decide), fun p2 hp2 => ?_⟩
      have s2 := same_new (o := HO.lst [V.int y]) hp2
      refine ⟨_, _, _, rfl, rfl, upd_same, by decide, by decide, (by show 1 * 2 ≤ sizeLine; decide), fun p6 hp6 => ?_⟩
      have s6 := same_new (o := HO.lst [V.int y, V.int y]) hp6
      refine ⟨_, _, _, _, rfl, rfl, s6 _ _ (s2 _ _ e11), upd_same, (by rw [List.length_map, List.length_take, sizeLine_eq]; show _ + 2 ≤ _; omega), fun p3 hp3 => ?_⟩
      have s3 := same_new (o := HO.lst ((os.take a).map V.int ++ [V.int y, V.int y])) hp3
      refine ⟨_, rfl, _, rfl, _, rfl, _, _, rfl, SqL.of (s3 _ _ (s6 _ _ (s2 _ _ L11.eo))), fun p4 hp4 => ?_⟩
      rw [cut_intsD]
      have s4 := same_new (o := HO.lst ((os.drop a).map V.int)) hp4
      refine ⟨_, _, _, _, rfl, rfl, s4 _ _ upd_same, upd_same, (by rw [List.length_append, List.length_map, List.length_map, List.length_take, List.length_drop, sizeLine_eq]; show _ + 2 + _ ≤ _; omega), fun p5 hp5 => ?_⟩
      have L13 := (((L11.same s2).same s6).same s3).same s4
      refine hD' _ _ ⟨_, p5, os.take a ++ [y, y] ++ os.drop a, rfl, L13.put (same_new hp5) ?_ (L13.T.S.ne hp5), ?_⟩
      · rw [upd_same]; exact congrArg _ (congrArg _ (ints_in os [y, y] a))
      · rw [List.length_append, List.length_append, List.length_take, List.length_drop]; show _ + 2 + _ ≤ _; omega
    clear L8 ol
    rintro σ H8 ⟨x9, o, os, rfl, L8, ol⟩
    -- what is due
    have g8 := L8.g.h
    have a8 := num_a L8.n
    have o8 := L8.eo
    have h8 : good = true → NumH H8 nv ns m := fun e => by subst e; exact num_h L8.n
    have ok8 := L8.n.2.1
    obtain ⟨l, st, wk⟩ := wk_ex os (begS m ns rws) (beg_hok m ns rws)
    have ll := wk.len
    have td : ∀ H', Told18 H' m ns rws os good l st := fun H' => ⟨ok8, fun _ => wk⟩
    clear L8
    refine ⟨(by show 3 ≤ sizeLine; decide), fun d0 hd0 => ?_⟩
    have sd0 := same_new (o := HO.tup [V.str "NoNumber", V.non, V.non]) hd0
    dsimp only [gName]
    refine seq_cps (fun σ H' => ∃ (d : Addr) (v1 v2 : V), σ = [some (.ref sc), some (.ref r), some (.int sp), some (.int sy), some (.int sg), some (.ref p), some nv, some (.bl good), some (.ref o), x9, some (.ref d), none, none, none, none] ∧ H' d = some (.tup [.str (wrdO good st), v1, v2]) ∧ Same H8 H' ∧ (good = true → st = none → ∃ a D as, v1 = .ref a ∧ v2 = .ref D ∧ WebAt H' a (l.map webT) ∧ as.length = rws.length ∧ RwT H' D as l) ∧ (¬ (good = true ∧ st = none) → v1 = .non ∧ v2 = .non)) (fun D' hD' rt' => ?_) ?_
    · refine ⟨_, rfl, _, rfl, ite2 (fun gt => ?_) (fun gf => ?_)⟩
      · subst gt
        refine ⟨_, rfl, _, rfl, _, rfl, p, L, rs, rws, m, nv, ns, o, os, l, st, rfl, g8.same sd0, n8, m20, ?_, sd0 _ _ o8, by omega, wk, fun t v1 v2 H9 e9 s9 k1 k2 => ?_⟩
        · obtain ⟨q1, q2⟩ := h8 rfl
          exact ⟨q1, q2.elim .inl fun ⟨cl, e, q⟩ => .inr ⟨cl, e, sd0 _ _ q⟩⟩
        · exact hD' _ _ ⟨t, v1, v2, rfl, e9, sd0.trans s9, fun _ => k1, fun z => k2 fun e => z ⟨rfl, e⟩⟩
      · have gf : good = false := by cases good with
          | false => rfl
          | true => exact absurd rfl gf
        subst gf
        exact hD' _ _ ⟨d0, .non, .non, rfl, upd_same, sd0, fun z => (by cases z), fun _ => ⟨rfl, rfl⟩⟩
    rintro σ H9 ⟨d, v1, v2, rfl, ed, s9, du1, du2⟩
    have g9 := g8.same s9
    have a9 := a8.same s9
    have o9 := s9 _ _ o8
    clear hd0 sd0 h8 s9 g8 a8 o8
    -- what is handed in: all of it new
    refine ⟨_, rfl, _, _, _, _, rfl, rfl, SqT.of g9.ep, rfl, _, rfl, _, _, _, _, rfl, rfl, SqT.of g9.ep, rfl, L, rfl, ⟨_, SqL.of g9.eL⟩, fun D hD => ?_⟩
    refine comp_list (K := K) (a := L) (xs := rs.map V.ref) (fun i σ Hd => ∃ (v : Option V) (as : List Addr), σ = [v] ∧ Cpy Hd D as rws m ∧ as.length = i ∧ Same H9 Hd)
      ⟨none, [], rfl, ⟨upd_same, fun k q x e => by simp at e⟩, rfl, same_new hD⟩ (fun i σ Hd _ ⟨_, _, _, _, _, sm⟩ => SqL.of (sm _ _ g9.eL)) ?_ ?_
    · rintro i x σ Hd hi ⟨v, as, rfl, cp, la, sm⟩
      dsimp only [gName, tAll]
      rw [if_pos rfl]
      have il : i < rs.length := by have := (List.getElem?_eq_some_iff.mp hi).1; rwa [List.length_map] at this
      have iw : i < rws.length := by rw [← g9.len]; exact il
      have ex : x = V.ref rs[i] := by rw [List.getElem?_map, List.getElem?_eq_getElem il] at hi; exact (Option.some.inj hi).symm
      subst ex
      obtain ⟨ts, et, dt, ok', l1000⟩ := (g9.same sm).row i rs[i] rws[i] (by simp [il]) (by simp [iw])
      refine ⟨_, rfl, rs[i], _, rfl, .inl (SqL.of et), fun q hq => ?_⟩
      have sq := same_new (o := HO.lst ts) hq
      have nq : q ≠ D := fun e => by rw [e, cp.d] at hq; cases hq
      have tu : ∀ x ys, (upd Hd q (.lst ts)) x = some (.tup ys) → (upd (upd Hd q (.lst ts)) D (.lst (as.map V.ref ++ [.ref q]))) x = some (.tup ys) := fun x ys e => by rw [upd_ne (ne_of e (sq _ _ cp.d) (by intro z; cases z))]; exact e
      refine ⟨as.map V.ref, sq _ _ cp.d, (by rw [List.length_map, la, sizeLine_eq]; omega), _, as ++ [q], rfl, ⟨by rw [upd_same, List.map_append]; rfl, fun kk q' x' h1 h2 => ?_⟩, by simp [la], fun x u e => by rw [upd_ne (ne_of_none e hD)]; exact sq _ _ (sm _ _ e)⟩
      rcases get_snoc h1 with h1 | ⟨e1, e2⟩
      · obtain ⟨n1, R1⟩ := cp.r kk q' x' h1 h2
        exact ⟨n1, (R1.same sq).keep (fun o e => by rw [upd_ne n1]; exact e) tu⟩
      · subst e2
        rw [e1, la, List.getElem?_eq_getElem iw] at h2
        cases h2
        exact ⟨nq, ts, by rw [upd_ne nq, upd_same], (dt.same sq _).keep tu _ (imms_map rwD imm_rw _), ok', l1000⟩
    rintro σ H10 ⟨v, as2, rfl, cp, la2, s10⟩
    rw [List.length_map] at la2
    refine ⟨(by show 2 ≤ sizeLine; decide), fun p2 hp2 => ?_⟩
    have s11 := same_new (o := HO.tup [V.int m, V.ref D]) hp2
    have g11 : PgH (upd H10 p2 (.tup [V.int m, V.ref D])) p2 D as2 rws m := ⟨upd_same, s11 _ _ cp.d, by rw [la2, g9.len], fun kk q x h1 h2 => (cp.r kk q x h1 h2).2.same s11⟩
    have S11 := s10.trans s11
    clear cp
    generalize (upd H10 p2 (.tup [V.int m, V.ref D])) = H11 at S11 g11 ⊢
    clear s10 s11 hp2 la2
    refine ⟨_, rfl, o, _, rfl, .inl (SqL.of (S11 _ _ o9)), fun o2 ho2 => ?_⟩
    have s12 := same_new (o := HO.lst (os.map V.int)) ho2
    have o12 : (upd H11 o2 (.lst (os.map V.int))) o2 = some (.lst (os.map V.int)) := upd_same
    have S12 := S11.trans s12
    have g12 := g11.same s12
    generalize (upd H11 o2 (.lst (os.map V.int))) = H12 at S12 g12 o12 ⊢
    clear S11 g11 s12
    refine ⟨_, rfl, (by show 3 ≤ sizeLine; decide), fun hd hhd => ?_⟩
    have s13 := same_new (o := HO.tup [V.ref p2, V.ref o2, nv]) hhd
    have e13 : (upd H12 hd (.tup [V.ref p2, V.ref o2, nv])) hd = some (.tup [V.ref p2, V.ref o2, nv]) := upd_same
    have S13 := S12.trans s13
    have g13 := g12.same s13
    have o13 := s13 _ _ o12
    generalize (upd H12 hd (.tup [V.ref p2, V.ref o2, nv])) = H13 at S13 g13 o13 e13 ⊢
    clear S12 g12 s13 o12
    dsimp only [gName]
    refine seq_cps (fun σ H' => ∃ (hd : Addr) (nv2 : V) (nd : PyData), σ = [some (.ref sc), some (.ref r), some (.int sp), some (.int sy), some (.int sg), some (.ref p), some nv, some (.bl good), some (.ref o), x9, some (.ref d), some (.ref hd), none, none, none] ∧ H' hd = some (.tup [.ref p2, .ref o2, nv2]) ∧ NumB H' nv ns nd ∧ NumB H' nv2 ns nd ∧ NumA H' m nv2 ns ∧ Same H13 H') (fun D' hD' rt' => ?_) ?_
    · have a13 := a9.same S13
      refine ⟨_, rfl, rfl, _, rfl, ?_⟩
      obtain ⟨nl, ⟨en, ens⟩ | ⟨cl, en, ecl⟩⟩ := a13
      · subst en
        exact iteF (hD' _ _ ⟨hd, .non, .none, rfl, e13, .inl ⟨rfl, rfl⟩, .inl ⟨rfl, rfl⟩, ⟨nl, .inl ⟨rfl, ens⟩⟩, Same.refl _⟩)
      · subst en
        refine iteT ?_
        refine ⟨_, rfl, _, _, _, _, rfl, rfl, SqT.of e13, rfl, _, rfl, _, _, _, _, rfl, rfl, SqT.of e13, rfl, _, rfl, cl, _, rfl, .inl (SqL.of ecl), fun c2 hc2 => ?_⟩
        have s14 := same_new (o := HO.lst (ns.map V.int)) hc2
        refine ⟨(by show 3 ≤ sizeLine; decide), fun h2 hh2 => ?_⟩
        have s15 := same_new (o := HO.tup [V.ref p2, V.ref o2, V.ref c2]) hh2
        exact hD' _ _ ⟨h2, .ref c2, intsD ns, rfl, upd_same, .inr ⟨cl, rfl, s15 _ _ (s14 _ _ ecl), rfl⟩, .inr ⟨c2, rfl, s15 _ _ upd_same, rfl⟩, ⟨nl, .inr ⟨c2, rfl, s15 _ _ upd_same⟩⟩, s14.trans s15⟩
    clear hhd e13 hd
    rintro σ H14 ⟨hd, nv2, nd, rfl, eh, b1, b2, a14, s14⟩
    have S14 := S13.trans s14
    have g14 := g13.same s14
    have o14 := s14 _ _ o13
    have gp := g9.same S14
    have go := S14 _ _ o9
    have ed14 := S14 _ _ ed
    have du1 : good = true → st = none → ∃ a D as, v1 = .ref a ∧ v2 = .ref D ∧ WebAt H14 a (l.map webT) ∧ as.length = rws.length ∧ RwT H14 D as l := fun e1 e2 => by
      obtain ⟨a, D, as, h1, h2, h3, h4, h5⟩ := du1 e1 e2
      exact ⟨a, D, as, h1, h2, h3.same S14, h4, h5.same S14⟩
    clear S13 g13 o13 s14 g9 a9 o9 ed S14
    -- the web
    refine ⟨_, rfl, _, _, _, _, rfl, rfl, SqT.of eh, rfl, _, rfl, _, _, _, _, rfl, rfl, SqT.of eh, rfl, _, rfl, _, _, _, _, rfl, rfl, SqT.of eh, rfl, _, rfl, ?_⟩
    refine ⟨p2, D, as2, rws, m, nv2, ns, o2, os, sy, good, l, st, rfl, g14, n8, m20, a14, o14, by omega, td _, fun t fv H15 et s15 f1 f2 => ?_⟩
    have dv1 : Dat H14 v1 (wdD good st l) := wd_dat (fun e1 e2 => by
      obtain ⟨a, D, as, h1, h2, h3, h4, h5⟩ := du1 e1 e2
      exact ⟨a, h1, h3⟩) fun z => (du2 z).1
    refine ⟨_, rfl, _, rfl, _, _, _, _, rfl, rfl, SqT.of (s15 _ _ ed14), rfl, _, rfl, _, _, _, _, rfl, rfl, SqT.of (s15 _ _ ed14), rfl, (by show 2 ≤ sizeLine; decide), fun u hu => ?_⟩
    have su := same_new (o := HO.tup [V.str (wrdO good st), v1]) hu
    refine ⟨_, _, _, rfl, (dat_pair et (wd_dat f1 f2)).same su _, dat_pair upd_same ((dv1.same s15 _).same su _), pls_pair (pls_wd (by omega)), fun H16 s16 => ⟨_, rfl, iteF ?_⟩⟩
    have S16 := (s15.trans su).trans s16
    have g16 := g14.same S16
    have o16 := S16 _ _ o14
    have eh16 := S16 _ _ eh
    have ed16 := S16 _ _ ed14
    have du16 : good = true → st = none → ∃ a D as, v1 = .ref a ∧ v2 = .ref D ∧ WebAt H16 a (l.map webT) ∧ as.length = rws.length ∧ RwT H16 D as l := fun e1 e2 => by
      obtain ⟨a, D, as, h1, h2, h3, h4, h5⟩ := du1 e1 e2
      exact ⟨a, D, as, h1, h2, h3.same S16, h4, h5.same S16⟩
    have a16 := a14.same S16
    have b16 := b1.same S16
    have c16 := b2.same S16
    have gp16 := gp.same S16
    have go16 := S16 _ _ go
    clear dv1 f1 f2 et s15 su s16 S16 g14 o14 eh ed14 du1 a14 b1 b2 gp go hu
    unfold tNext
    dsimp only
    -- the touches
    refine ⟨_, rfl, _, _, _, _, rfl, rfl, SqT.of eh16, rfl, _, rfl, _, _, _, _, rfl, rfl, SqT.of eh16, rfl, _, rfl, _, _, _, _, rfl, rfl, SqT.of eh16, rfl, _, rfl, ?_⟩
    refine ⟨p2, D, as2, rws, m, nv2, ns, o2, os, sy, good, l, st, rfl, g16, n8, m20, a16, o16, by omega, td _, fun t fv H17 et s17 f1 f2 => ?_⟩
    have dv2 : Dat H16 v2 (rdD good st l rws.length) := rd_dat (fun e1 e2 => by
      obtain ⟨a, D, as, h1, h2, h3, h4, h5⟩ := du16 e1 e2
      exact ⟨D, as, h2, h4, h5⟩) fun z => (du2 z).2
    have dfv : Dat H17 fv (rdD good st l rws.length) := rd_dat (fun e1 e2 => by
      obtain ⟨D, as, h1, h2, h3, h4, h5, h6⟩ := f1 e1 e2
      exact ⟨D, as, h1, h5, h6⟩) f2
    refine ⟨_, rfl, _, rfl, _, _, _, _, rfl, rfl, SqT.of (s17 _ _ ed16), rfl, _, rfl, _, _, _, _, rfl, rfl, SqT.of (s17 _ _ ed16), rfl, (by show 2 ≤ sizeLine; decide), fun u hu => ?_⟩
    have su := same_new (o := HO.tup [V.str (wrdO good st), v2]) hu
    refine ⟨_, _, _, rfl, (dat_pair et dfv).same su _, dat_pair upd_same ((dv2.same s17 _).same su _), pls_pair (pls_rd (by omega) (by omega)), fun H18 s18 => ⟨_, rfl, iteF ?_⟩⟩
    have S18 := (s17.trans su).trans s18
    have s178 := su.trans s18
    refine ⟨_, rfl, _, rfl, _, rfl, _, rfl, (by show 3 ≤ sizeLine; decide), fun u2 hu2 => ?_⟩
    have su2 := same_new (o := HO.tup [V.ref p, V.ref o, nv]) hu2
    have sh := shaped_hnd (os := os) gp16.ok b16.can
    have S19 := S18.trans su2
    refine ⟨_, _, dat_hnd (S19 _ _ eh16) (g16.same S19) (S19 _ _ o16) (c16.same S19), dat_hnd upd_same (gp16.same S19) (S19 _ _ go16) (b16.same S19), sh, sh, _, rfl, ?_⟩
    rw [eqv_sh sh]
    refine iteF ?_
    have s179 := s178.trans su2
    have et19 := s179 _ _ et
    generalize (upd H18 u2 (.tup [V.ref p, V.ref o, nv])) = H19 at S19 s179 et19 ⊢
    clear su2 hu2 S18 s178 s18 su hu dfv dv2
    dsimp only
    refine ⟨_, rfl, _, rfl, ite2 (fun gt => ?_) (fun _ => iteF (k _))⟩
    subst gt
    refine ⟨_, rfl, _, _, _, _, rfl, rfl, SqT.of (S19 _ _ ed16), rfl, rfl, _, rfl, ite2 (fun wz => ?_) (fun _ => k _)⟩
    have st0 : st = none := by
      cases st with
      | none => rfl
      | some b => cases b <;> exact absurd (of_decide_eq_true wz) (by decide)
    subst st0
    clear wz
    obtain ⟨E, as, rfl, hE, has, nd', las, rwE⟩ := f1 rfl rfl
    obtain ⟨a, E2, as3, rfl, rfl, _, las3, rw3⟩ := du16 rfl rfl
    have rw19 := rwE.same s179
    -- rows put behind what was told
    refine ⟨_, rfl, _, _, _, _, rfl, rfl, SqT.of et19, rfl, E, rfl, ⟨_, SqL.of rw19.d⟩, ?_⟩
    refine for_list (K := K) (a := E) (xs := as.map V.ref) (fun j σ Hc => ∃ (x13 : Option V), σ = [some (.ref sc), some (.ref r), some (.int sp), some (.int sy), some (.int sg), some (.ref p), some nv, some (.bl true), some (.ref o), x9, some (.ref d), some (.ref hd), some (.ref t), x13, none] ∧ RwL Hc E as (fun h => (ofH l h).map tcD ++ if h < j then [ldD] else []) ∧ Hc t = some (.tup [.str (wrdO true none), .ref E]) ∧ Same H16 Hc)
      ⟨none, rfl, ⟨rw19.d, fun h q e => by rw [if_neg (by omega), List.append_nil]; exact rw19.r h q e⟩, et19, S19⟩ (fun j σ Hc _ ⟨_, _, rl, _, _⟩ => SqL.of rl.d) ?_ ?_
    · rintro j v σ Hc hj ⟨x13, rfl, rl, ec, sc'⟩
      rw [List.getElem?_map] at hj
      cases eq : as[j]? with
      | none => rw [eq] at hj; cases hj
      | some q =>
        rw [eq] at hj
        cases hj
        obtain ⟨refs, er, dr⟩ := rl.r j q eq
        rw [if_neg (by omega), List.append_nil] at dr
        have mq := List.mem_of_getElem? eq
        have jl := (List.getElem?_eq_some_iff.mp eq).1
        refine ⟨_, rfl, .inl ⟨rfl, _, SqL.of er⟩, (by show 4 ≤ sizeLine; decide), fun u hu => ?_⟩
        have su := same_new (o := HO.tup [V.str "load", V.int 0, V.int 0, V.non]) hu
        have eu : (upd Hc u (.tup [V.str "load", V.int 0, V.int 0, V.non])) u = some (.tup [V.str "load", V.int 0, V.int 0, V.non]) := upd_same
        have eru := su _ _ er
        have fl : (ofH l j).length ≤ l.length := List.length_filter_le _ _
        refine ⟨_, _, _, rfl, rfl, eru, (by rw [dr.length, List.length_map, sizeLine_eq]; omega), ?_⟩
        have ecu := su _ _ ec
        have tu : ∀ x ys, (upd Hc u (.tup [V.str "load", V.int 0, V.int 0, V.non])) x = some (.tup ys) → (upd (upd Hc u (.tup [V.str "load", V.int 0, V.int 0, V.non])) q (.lst (refs ++ [V.ref u]))) x = some (.tup ys) := fun x ys e => by rw [upd_ne (ne_of e eru (by intro z; cases z))]; exact e
        refine ⟨_, rfl, ⟨by rw [upd_ne (has q mq).2.symm]; exact su _ _ rl.d, fun h q' e' => ?_⟩, tu _ _ ecu, fun x u' e => by rw [upd_ne (ne_of_none e (has q mq).1)]; exact su _ _ (sc' _ _ e)⟩
        by_cases z : h = j
        · subst z
          rw [eq] at e'
          cases e'
          rw [if_pos (by omega)]
          exact ⟨_, upd_same, dats_snoc ((dr.same su _).keep tu _ (imms_tc _)) (dat_ld (tu _ _ eu))⟩
        · have nq : q' ≠ q := fun x => by
            subst x
            exact z ((List.getElem?_inj jl nd').mp (eq.trans e'.symm)).symm
          obtain ⟨refs', e2, d2⟩ := rl.r h q' e'
          have ei : (if h < j + 1 then [ldD] else []) = (if h < j then [ldD] else []) := by
            by_cases y : h < j
            · rw [if_pos y, if_pos (by omega)]
            · rw [if_neg y, if_neg (by omega)]
          rw [ei]
          refine ⟨refs', by rw [upd_ne nq]; exact su _ _ e2, (d2.same su _).keep tu _ ?_⟩
          by_cases y : h < j
          · rw [if_pos y]; exact imms_ld
          · rw [if_neg y, List.append_nil]; exact imms_tc _
    rintro σ H20 ⟨x13, rfl, rl, et20, S20⟩
    have rl : RwL H20 E as (fun h => (ofH l h).map tcD ++ [ldD]) := ⟨rl.d, fun h q e => by
      have := rl.r h q e
      rwa [if_pos (by rw [List.length_map]; exact (List.getElem?_eq_some_iff.mp e).1)] at this⟩
    -- the same behind what is due
    have rw20 := rw3.same S20
    refine ⟨_, rfl, _, _, _, _, rfl, rfl, SqT.of (S20 _ _ ed16), rfl, E2, rfl, ⟨_, SqL.of rw20.d⟩, fun G hG => ?_⟩
    refine comp_list (K := K) (a := E2) (xs := as3.map V.ref) (fun i σ Hd => ∃ (v : Option V) (bs : List Addr), σ = [v] ∧ Hd G = some (.lst (bs.map V.ref)) ∧ bs.length = i ∧ (∀ (h : Nat) (q : Addr), bs[h]? = some q → q ≠ G ∧ ∃ refs, Hd q = some (.lst refs) ∧ Dats Hd refs ((ofH l h).map tcD ++ [ldD])) ∧ Same H20 Hd)
      ⟨none, [], rfl, upd_same, rfl, fun h q e => by simp at e, same_new hG⟩ (fun i σ Hd _ ⟨_, _, _, _, _, _, sm⟩ => SqL.of (sm _ _ rw20.d)) ?_ ?_
    · rintro i x σ Hd hi ⟨v, bs, rfl, eG, lb, hb, sm⟩
      dsimp only [gName, tAll]
      rw [if_pos rfl]
      rw [List.getElem?_map] at hi
      cases eq : as3[i]? with
      | none => rw [eq] at hi; cases hi
      | some q =>
        rw [eq] at hi
        cases hi
        have il := (List.getElem?_eq_some_iff.mp eq).1
        obtain ⟨refs, er, dr⟩ := (rw20.same sm).r i q eq
        refine ⟨_, rfl, (by show 4 ≤ sizeLine; decide), fun u hu => ?_⟩
        have su := same_new (o := HO.tup [V.str "load", V.int 0, V.int 0, V.non]) hu
        refine ⟨(by show 1 ≤ sizeLine; decide), fun w' hw' => ?_⟩
        have sw := same_new (o := HO.lst [V.ref u]) hw'
        have fl : (ofH l i).length ≤ l.length := List.length_filter_le _ _
        refine ⟨_, _, _, _, rfl, rfl, sw _ _ (su _ _ er), upd_same, (by rw [dr.length, List.length_map, sizeLine_eq]; simp only [List.length_singleton]; omega), fun z hz => ?_⟩
        have sz := same_new (o := HO.lst (refs ++ [V.ref u])) hz
        have s3 := (su.trans sw).trans sz
        have dz := dats_snoc (dr.same s3 _) (dat_ld (sz _ _ (sw _ _ upd_same)))
        have ez : (upd (upd (upd Hd u (.tup [V.str "load", V.int 0, V.int 0, V.non])) w' (.lst [V.ref u])) z (.lst (refs ++ [V.ref u]))) z = some (.lst (refs ++ [V.ref u])) := upd_same
        have eG3 := s3 _ _ eG
        have nz : z ≠ G := fun e => by
          have := sw _ _ (su _ _ eG)
          rw [← e, hz] at this
          cases this
        generalize (upd (upd (upd Hd u (.tup [V.str "load", V.int 0, V.int 0, V.non])) w' (.lst [V.ref u])) z (.lst (refs ++ [V.ref u]))) = He at s3 dz ez eG3 ⊢
        have tu : ∀ x ys, He x = some (.tup ys) → (upd He G (.lst (bs.map V.ref ++ [.ref z]))) x = some (.tup ys) := fun x ys e => by rw [upd_ne (ne_of e eG3 (by intro z; cases z))]; exact e
        refine ⟨bs.map V.ref, eG3, (by rw [List.length_map, lb, sizeLine_eq]; omega), _, bs ++ [z], rfl, by rw [upd_same, List.map_append]; rfl, by simp [lb], fun h q' e' => ?_, fun x u' e => by rw [upd_ne (ne_of_none e hG)]; exact s3 _ _ (sm _ _ e)⟩
        rcases get_snoc e' with e' | ⟨e1, e2⟩
        · obtain ⟨n1, refs', e2, d2⟩ := hb h q' e'
          exact ⟨n1, refs', by rw [upd_ne n1]; exact s3 _ _ e2, (d2.same s3 _).keep tu _ imms_ld⟩
        · subst e2
          rw [e1, lb]
          exact ⟨nz, _, by rw [upd_ne nz]; exact ez, dz.keep tu _ imms_ld⟩
    rintro σ H21 ⟨v, bs, rfl, eG, lb, hb, s21⟩
    rw [List.length_map] at lb
    have rb : RwL H21 G bs (fun h => (ofH l h).map tcD ++ [ldD]) := ⟨eG, fun h q e => (hb h q e).2⟩
    have d1 := rb.dat
    have d2 := rl.dat.same s21 _
    rw [lb, las3] at d1
    rw [las] at d2
    have et21 := s21 _ _ et20
    refine ⟨_, rfl, _, _, _, _, rfl, rfl, SqT.of et21, rfl, _, rfl, ?_⟩
    refine ⟨_, _, _, rfl, d2, d1, pls_kept (by omega) (by omega), fun H22 s22 => ⟨_, rfl, iteT ?_⟩⟩
    have S22 := (S20.trans s21).trans s22
    refine ⟨_, rfl, _, rfl, _, rfl, _, rfl, (by show 3 ≤ sizeLine; decide), fun u3 hu3 => ?_⟩
    have S23 := S22.trans (same_new (o := HO.tup [V.ref p, V.ref o, nv]) hu3)
    refine ⟨_, _, dat_hnd (S23 _ _ eh16) (g16.same S23) (S23 _ _ o16) (c16.same S23), dat_hnd upd_same (gp16.same S23) (S23 _ _ go16) (b16.same S23), sh, sh, ?_⟩
    rw [eqv_sh sh]
    exact k _

end
theorem len0 {us : List Value} (h : us.length = 0) : us = [] := List.eq_nil_of_length_eq_zero h
theorem lenS {us : List Value} {n : Nat} (h : us.length = n + 1) : ∃ a vs, us = a :: vs ∧ vs.length = n := by
  cases us with
  | nil => cases h
  | cons a t => exact ⟨a, t, rfl, Nat.succ.inj h⟩
theorem bi_is_whole (kV doc pm : Value) (an : Option Addr) (cdv ct : Value) (us : List Value) (hl : us.length = (["value"] : List Str).length) : bindArgs (PySem.W.fnOf "is_whole" "is_whole" (defArgs s_is_whole) (defBody s_is_whole) (defScope s_is_whole) .none kV doc pm an cdv ct) ⟨us, []⟩ = pure ((["value"] : List Str).zip us) := by obtain ⟨_, _, rfl, h1⟩ := lenS hl; cases len0 h1; rfl
theorem bi_is_below (kV doc pm : Value) (an : Option Addr) (cdv ct : Value) (us : List Value) (hl : us.length = (["value", "count"] : List Str).length) : bindArgs (PySem.W.fnOf "is_below" "is_below" (defArgs s_is_below) (defBody s_is_below) (defScope s_is_below) .none kV doc pm an cdv ct) ⟨us, []⟩ = pure ((["value", "count"] : List Str).zip us) := by obtain ⟨_, _, rfl, h1⟩ := lenS hl; obtain ⟨_, _, rfl, h2⟩ := lenS h1; cases len0 h2; rfl
theorem bi_Hand_init (kV doc pm : Value) (an : Option Addr) (cdv ct : Value) (us : List Value) (hl : us.length = (["self", "rows"] : List Str).length) : bindArgs (PySem.W.fnOf "__init__" "Hand.__init__" (defArgs s_Hand_init) (defBody s_Hand_init) (defScope s_Hand_init) .none kV doc pm an cdv ct) ⟨us, []⟩ = pure ((["self", "rows"] : List Str).zip us) := by obtain ⟨_, _, rfl, h1⟩ := lenS hl; obtain ⟨_, _, rfl, h2⟩ := lenS h1; cases len0 h2; rfl
theorem bi_cell_of (kV doc pm : Value) (an : Option Addr) (cdv ct : Value) (us : List Value) (hl : us.length = (["row"] : List Str).length) : bindArgs (PySem.W.fnOf "cell_of" "cell_of" (defArgs s_cell_of) (defBody s_cell_of) (defScope s_cell_of) .none kV doc pm an cdv ct) ⟨us, []⟩ = pure ((["row"] : List Str).zip us) := by obtain ⟨_, _, rfl, h1⟩ := lenS hl; cases len0 h1; rfl
theorem bi_Hand_value_of (kV doc pm : Value) (an : Option Addr) (cdv ct : Value) (us : List Value) (hl : us.length = (["self", "part"] : List Str).length) : bindArgs (PySem.W.fnOf "value_of" "Hand.value_of" (defArgs s_Hand_value_of) (defBody s_Hand_value_of) (defScope s_Hand_value_of) .none kV doc pm an cdv ct) ⟨us, []⟩ = pure ((["self", "part"] : List Str).zip us) := by obtain ⟨_, _, rfl, h1⟩ := lenS hl; obtain ⟨_, _, rfl, h2⟩ := lenS h1; cases len0 h2; rfl
theorem bi_Hand_holds (kV doc pm : Value) (an : Option Addr) (cdv ct : Value) (us : List Value) (hl : us.length = (["self", "row"] : List Str).length) : bindArgs (PySem.W.fnOf "holds" "Hand.holds" (defArgs s_Hand_holds) (defBody s_Hand_holds) (defScope s_Hand_holds) .none kV doc pm an cdv ct) ⟨us, []⟩ = pure ((["self", "row"] : List Str).zip us) := by obtain ⟨_, _, rfl, h1⟩ := lenS hl; obtain ⟨_, _, rfl, h2⟩ := lenS h1; cases len0 h2; rfl
theorem bi_Hand_take (kV doc pm : Value) (an : Option Addr) (cdv ct : Value) (us : List Value) (hl : us.length = (["self", "box", "number"] : List Str).length) : bindArgs (PySem.W.fnOf "take" "Hand.take" (defArgs s_Hand_take) (defBody s_Hand_take) (defScope s_Hand_take) .none kV doc pm an cdv ct) ⟨us, []⟩ = pure ((["self", "box", "number"] : List Str).zip us) := by obtain ⟨_, _, rfl, h1⟩ := lenS hl; obtain ⟨_, _, rfl, h2⟩ := lenS h1; obtain ⟨_, _, rfl, h3⟩ := lenS h2; cases len0 h3; rfl
theorem bi_Hand_do (kV doc pm : Value) (an : Option Addr) (cdv ct : Value) (us : List Value) (hl : us.length = (["self", "row"] : List Str).length) : bindArgs (PySem.W.fnOf "do" "Hand.do" (defArgs s_Hand_do) (defBody s_Hand_do) (defScope s_Hand_do) .none kV doc pm an cdv ct) ⟨us, []⟩ = pure ((["self", "row"] : List Str).zip us) := by obtain ⟨_, _, rfl, h1⟩ := lenS hl; obtain ⟨_, _, rfl, h2⟩ := lenS h1; cases len0 h2; rfl
theorem bi_Hand_lead_on (kV doc pm : Value) (an : Option Addr) (cdv ct : Value) (us : List Value) (hl : us.length = (["self"] : List Str).length) : bindArgs (PySem.W.fnOf "lead_on" "Hand.lead_on" (defArgs s_Hand_lead_on) (defBody s_Hand_lead_on) (defScope s_Hand_lead_on) .none kV doc pm an cdv ct) ⟨us, []⟩ = pure ((["self"] : List Str).zip us) := by obtain ⟨_, _, rfl, h1⟩ := lenS hl; cases len0 h1; rfl
theorem bi_check_numbers (kV doc pm : Value) (an : Option Addr) (cdv ct : Value) (us : List Value) (hl : us.length = (["cells", "count"] : List Str).length) : bindArgs (PySem.W.fnOf "check_numbers" "check_numbers" (defArgs s_check_numbers) (defBody s_check_numbers) (defScope s_check_numbers) .none kV doc pm an cdv ct) ⟨us, []⟩ = pure ((["cells", "count"] : List Str).zip us) := by obtain ⟨_, _, rfl, h1⟩ := lenS hl; obtain ⟨_, _, rfl, h2⟩ := lenS h1; cases len0 h2; rfl
theorem bi_Works_touch_by (kV doc pm : Value) (an : Option Addr) (cdv ct : Value) (us : List Value) (hl : us.length = (["self", "one"] : List Str).length) : bindArgs (PySem.W.fnOf "touch_by" "Works.touch_by" (defArgs s_Works_touch_by) (defBody s_Works_touch_by) (defScope s_Works_touch_by) .none kV doc pm an cdv ct) ⟨us, []⟩ = pure ((["self", "one"] : List Str).zip us) := by obtain ⟨_, _, rfl, h1⟩ := lenS hl; obtain ⟨_, _, rfl, h2⟩ := lenS h1; cases len0 h2; rfl
theorem bi_Works_hand_of (kV doc pm : Value) (an : Option Addr) (cdv ct : Value) (us : List Value) (hl : us.length = (["self", "hand"] : List Str).length) : bindArgs (PySem.W.fnOf "hand_of" "Works.hand_of" (defArgs s_Works_hand_of) (defBody s_Works_hand_of) (defScope s_Works_hand_of) .none kV doc pm an cdv ct) ⟨us, []⟩ = pure ((["self", "hand"] : List Str).zip us) := by obtain ⟨_, _, rfl, h1⟩ := lenS hl; obtain ⟨_, _, rfl, h2⟩ := lenS h1; cases len0 h2; rfl
theorem bi_Works_turn (kV doc pm : Value) (an : Option Addr) (cdv ct : Value) (us : List Value) (hl : us.length = (["self", "hand"] : List Str).length) : bindArgs (PySem.W.fnOf "turn" "Works.turn" (defArgs s_Works_turn) (defBody s_Works_turn) (defScope s_Works_turn) .none kV doc pm an cdv ct) ⟨us, []⟩ = pure ((["self", "hand"] : List Str).zip us) := by obtain ⟨_, _, rfl, h1⟩ := lenS hl; obtain ⟨_, _, rfl, h2⟩ := lenS h1; cases len0 h2; rfl
theorem bd0_Works_init {K : PySem.W.Frag} {T : Addr} {tc : Value} {td : Option Addr} {tn : Nat} {tsl : Array (Option Value)} (d : K.lookup T = some ⟨tc, td, .seq #[.none] tn, tsl⟩) {kV doc pm : Value} {an : Option Addr} {cdv ct : Value} : Binds K (PySem.W.fnOf "__init__" "Works.__init__" (defArgs s_Works_init) (defBody s_Works_init) (defScope s_Works_init) (.ref T) kV doc pm an cdv ct) ["self", "program", "cells"] [] := by
  intro s us KX hl
  have hl : us.length = 3 := by simpa using hl
  obtain ⟨_, _, rfl, h1⟩ := lenS hl; obtain ⟨_, _, rfl, h2⟩ := lenS h1; obtain ⟨_, _, rfl, h3⟩ := lenS h2; cases len0 h3
  exact PySem.W.binds_K KX rfl d rfl rfl rfl
theorem bd1_Works_init {K : PySem.W.Frag} {T : Addr} {tc : Value} {td : Option Addr} {tn : Nat} {tsl : Array (Option Value)} (d : K.lookup T = some ⟨tc, td, .seq #[.none] tn, tsl⟩) {kV doc pm : Value} {an : Option Addr} {cdv ct : Value} : Binds K (PySem.W.fnOf "__init__" "Works.__init__" (defArgs s_Works_init) (defBody s_Works_init) (defScope s_Works_init) (.ref T) kV doc pm an cdv ct) ["self", "program", "cells"] [.none] := by
  intro s us KX hl
  have hl : us.length = 2 := by simpa using hl
  obtain ⟨_, _, rfl, h1⟩ := lenS hl; obtain ⟨_, _, rfl, h2⟩ := lenS h1; cases len0 h2
  exact PySem.W.binds_K KX rfl d rfl rfl rfl
theorem bdK_Works_init {K : PySem.W.Frag} {T : Addr} {tc : Value} {td : Option Addr} {tn : Nat} {tsl : Array (Option Value)} (d : K.lookup T = some ⟨tc, td, .seq #[.none] tn, tsl⟩) {kV doc pm : Value} {an : Option Addr} {cdv ct : Value} (s : Shared) (us : List Value) (z : Value) (KX : K.In s.heap) (hl : (us ++ [z]).length = (["self", "program", "cells"] : List Str).length) : BindsTo s (PySem.W.fnOf "__init__" "Works.__init__" (defArgs s_Works_init) (defBody s_Works_init) (defScope s_Works_init) (.ref T) kV doc pm an cdv ct) ⟨us, [("cells", z)]⟩ ((["self", "program", "cells"] : List Str).zip (us ++ [z])) := by
  have hl : us.length = 2 := by simpa using hl
  obtain ⟨_, _, rfl, h1⟩ := lenS hl; obtain ⟨_, _, rfl, h2⟩ := lenS h1; cases len0 h2
  exact PySem.W.binds_K KX rfl d rfl rfl rfl
theorem bi_Works_how (kV doc pm : Value) (an : Option Addr) (cdv ct : Value) (us : List Value) (hl : us.length = (["self", "hand"] : List Str).length) : bindArgs (PySem.W.fnOf "how" "Works.how" (defArgs s_Works_how) (defBody s_Works_how) (defScope s_Works_how) .none kV doc pm an cdv ct) ⟨us, []⟩ = pure ((["self", "hand"] : List Str).zip us) := by obtain ⟨_, _, rfl, h1⟩ := lenS hl; obtain ⟨_, _, rfl, h2⟩ := lenS h1; cases len0 h2; rfl
theorem bi_Works_counts (kV doc pm : Value) (an : Option Addr) (cdv ct : Value) (us : List Value) (hl : us.length = (["self"] : List Str).length) : bindArgs (PySem.W.fnOf "counts" "Works.counts" (defArgs s_Works_counts) (defBody s_Works_counts) (defScope s_Works_counts) .none kV doc pm an cdv ct) ⟨us, []⟩ = pure ((["self"] : List Str).zip us) := by obtain ⟨_, _, rfl, h1⟩ := lenS hl; cases len0 h1; rfl
theorem bd0_web_of {K : PySem.W.Frag} {T : Addr} {tc : Value} {td : Option Addr} {tn : Nat} {tsl : Array (Option Value)} (d : K.lookup T = some ⟨tc, td, .seq #[.none] tn, tsl⟩) {kV doc pm : Value} {an : Option Addr} {cdv ct : Value} : Binds K (PySem.W.fnOf "web_of" "web_of" (defArgs s_web_of) (defBody s_web_of) (defScope s_web_of) (.ref T) kV doc pm an cdv ct) ["program", "order", "cells"] [] := by
  intro s us KX hl
  have hl : us.length = 3 := by simpa using hl
  obtain ⟨_, _, rfl, h1⟩ := lenS hl; obtain ⟨_, _, rfl, h2⟩ := lenS h1; obtain ⟨_, _, rfl, h3⟩ := lenS h2; cases len0 h3
  exact PySem.W.binds_K KX rfl d rfl rfl rfl
theorem bd1_web_of {K : PySem.W.Frag} {T : Addr} {tc : Value} {td : Option Addr} {tn : Nat} {tsl : Array (Option Value)} (d : K.lookup T = some ⟨tc, td, .seq #[.none] tn, tsl⟩) {kV doc pm : Value} {an : Option Addr} {cdv ct : Value} : Binds K (PySem.W.fnOf "web_of" "web_of" (defArgs s_web_of) (defBody s_web_of) (defScope s_web_of) (.ref T) kV doc pm an cdv ct) ["program", "order", "cells"] [.none] := by
  intro s us KX hl
  have hl : us.length = 2 := by simpa using hl
  obtain ⟨_, _, rfl, h1⟩ := lenS hl; obtain ⟨_, _, rfl, h2⟩ := lenS h1; cases len0 h2
  exact PySem.W.binds_K KX rfl d rfl rfl rfl
theorem bdK_web_of {K : PySem.W.Frag} {T : Addr} {tc : Value} {td : Option Addr} {tn : Nat} {tsl : Array (Option Value)} (d : K.lookup T = some ⟨tc, td, .seq #[.none] tn, tsl⟩) {kV doc pm : Value} {an : Option Addr} {cdv ct : Value} (s : Shared) (us : List Value) (z : Value) (KX : K.In s.heap) (hl : (us ++ [z]).length = (["program", "order", "cells"] : List Str).length) : BindsTo s (PySem.W.fnOf "web_of" "web_of" (defArgs s_web_of) (defBody s_web_of) (defScope s_web_of) (.ref T) kV doc pm an cdv ct) ⟨us, [("cells", z)]⟩ ((["program", "order", "cells"] : List Str).zip (us ++ [z])) := by
  have hl : us.length = 2 := by simpa using hl
  obtain ⟨_, _, rfl, h1⟩ := lenS hl; obtain ⟨_, _, rfl, h2⟩ := lenS h1; cases len0 h2
  exact PySem.W.binds_K KX rfl d rfl rfl rfl
theorem bd0_touches_of {K : PySem.W.Frag} {T : Addr} {tc : Value} {td : Option Addr} {tn : Nat} {tsl : Array (Option Value)} (d : K.lookup T = some ⟨tc, td, .seq #[.none] tn, tsl⟩) {kV doc pm : Value} {an : Option Addr} {cdv ct : Value} : Binds K (PySem.W.fnOf "touches_of" "touches_of" (defArgs s_touches_of) (defBody s_touches_of) (defScope s_touches_of) (.ref T) kV doc pm an cdv ct) ["program", "order", "cells"] [] := by
  intro s us KX hl
  have hl : us.length = 3 := by simpa using hl
  obtain ⟨_, _, rfl, h1⟩ := lenS hl; obtain ⟨_, _, rfl, h2⟩ := lenS h1; obtain ⟨_, _, rfl, h3⟩ := lenS h2; cases len0 h3
  exact PySem.W.binds_K KX rfl d rfl rfl rfl
theorem bd1_touches_of {K : PySem.W.Frag} {T : Addr} {tc : Value} {td : Option Addr} {tn : Nat} {tsl : Array (Option Value)} (d : K.lookup T = some ⟨tc, td, .seq #[.none] tn, tsl⟩) {kV doc pm : Value} {an : Option Addr} {cdv ct : Value} : Binds K (PySem.W.fnOf "touches_of" "touches_of" (defArgs s_touches_of) (defBody s_touches_of) (defScope s_touches_of) (.ref T) kV doc pm an cdv ct) ["program", "order", "cells"] [.none] := by
  intro s us KX hl
  have hl : us.length = 2 := by simpa using hl
  obtain ⟨_, _, rfl, h1⟩ := lenS hl; obtain ⟨_, _, rfl, h2⟩ := lenS h1; cases len0 h2
  exact PySem.W.binds_K KX rfl d rfl rfl rfl
theorem bdK_touches_of {K : PySem.W.Frag} {T : Addr} {tc : Value} {td : Option Addr} {tn : Nat} {tsl : Array (Option Value)} (d : K.lookup T = some ⟨tc, td, .seq #[.none] tn, tsl⟩) {kV doc pm : Value} {an : Option Addr} {cdv ct : Value} (s : Shared) (us : List Value) (z : Value) (KX : K.In s.heap) (hl : (us ++ [z]).length = (["program", "order", "cells"] : List Str).length) : BindsTo s (PySem.W.fnOf "touches_of" "touches_of" (defArgs s_touches_of) (defBody s_touches_of) (defScope s_touches_of) (.ref T) kV doc pm an cdv ct) ⟨us, [("cells", z)]⟩ ((["program", "order", "cells"] : List Str).zip (us ++ [z])) := by
  have hl : us.length = 2 := by simpa using hl
  obtain ⟨_, _, rfl, h1⟩ := lenS hl; obtain ⟨_, _, rfl, h2⟩ := lenS h1; cases len0 h2
  exact PySem.W.binds_K KX rfl d rfl rfl rfl
theorem bi_Lspring (kV doc pm : Value) (an : Option Addr) (cdv ct : Value) (us : List Value) (hl : us.length = (["script"] : List Str).length) : bindArgs (PySem.W.fnOf "_law_spring" "_law_spring" (defArgs s_Lspring) (defBody s_Lspring) (defScope s_Lspring) .none kV doc pm an cdv ct) ⟨us, []⟩ = pure ((["script"] : List Str).zip us) := by obtain ⟨_, _, rfl, h1⟩ := lenS hl; cases len0 h1; rfl
theorem bi_Ldraw (kV doc pm : Value) (an : Option Addr) (cdv ct : Value) (us : List Value) (hl : us.length = (["spring", "many"] : List Str).length) : bindArgs (PySem.W.fnOf "_law_draw" "_law_draw" (defArgs s_Ldraw) (defBody s_Ldraw) (defScope s_Ldraw) .none kV doc pm an cdv ct) ⟨us, []⟩ = pure ((["spring", "many"] : List Str).zip us) := by obtain ⟨_, _, rfl, h1⟩ := lenS hl; obtain ⟨_, _, rfl, h2⟩ := lenS h1; cases len0 h2; rfl
theorem bi_Lvalue (kV doc pm : Value) (an : Option Addr) (cdv ct : Value) (us : List Value) (hl : us.length = (["spring", "boxes"] : List Str).length) : bindArgs (PySem.W.fnOf "_law_value" "_law_value" (defArgs s_Lvalue) (defBody s_Lvalue) (defScope s_Lvalue) .none kV doc pm an cdv ct) ⟨us, []⟩ = pure ((["spring", "boxes"] : List Str).zip us) := by obtain ⟨_, _, rfl, h1⟩ := lenS hl; obtain ⟨_, _, rfl, h2⟩ := lenS h1; cases len0 h2; rfl
theorem bi_Lworth (kV doc pm : Value) (an : Option Addr) (cdv ct : Value) (us : List Value) (hl : us.length = (["spring", "boxes"] : List Str).length) : bindArgs (PySem.W.fnOf "_law_worth" "_law_worth" (defArgs s_Lworth) (defBody s_Lworth) (defScope s_Lworth) .none kV doc pm an cdv ct) ⟨us, []⟩ = pure ((["spring", "boxes"] : List Str).zip us) := by obtain ⟨_, _, rfl, h1⟩ := lenS hl; obtain ⟨_, _, rfl, h2⟩ := lenS h1; cases len0 h2; rfl
theorem bi_Lline (kV doc pm : Value) (an : Option Addr) (cdv ct : Value) (us : List Value) (hl : us.length = (["spring", "room", "boxes", "many"] : List Str).length) : bindArgs (PySem.W.fnOf "_law_line" "_law_line" (defArgs s_Lline) (defBody s_Lline) (defScope s_Lline) .none kV doc pm an cdv ct) ⟨us, []⟩ = pure ((["spring", "room", "boxes", "many"] : List Str).zip us) := by obtain ⟨_, _, rfl, h1⟩ := lenS hl; obtain ⟨_, _, rfl, h2⟩ := lenS h1; obtain ⟨_, _, rfl, h3⟩ := lenS h2; obtain ⟨_, _, rfl, h4⟩ := lenS h3; cases len0 h4; rfl
theorem bi_Lprogram (kV doc pm : Value) (an : Option Addr) (cdv ct : Value) (us : List Value) (hl : us.length = (["spring"] : List Str).length) : bindArgs (PySem.W.fnOf "_law_program" "_law_program" (defArgs s_Lprogram) (defBody s_Lprogram) (defScope s_Lprogram) .none kV doc pm an cdv ct) ⟨us, []⟩ = pure ((["spring"] : List Str).zip us) := by obtain ⟨_, _, rfl, h1⟩ := lenS hl; cases len0 h1; rfl
theorem bi_Lorder (kV doc pm : Value) (an : Option Addr) (cdv ct : Value) (us : List Value) (hl : us.length = (["spring", "works", "most"] : List Str).length) : bindArgs (PySem.W.fnOf "_law_order" "_law_order" (defArgs s_Lorder) (defBody s_Lorder) (defScope s_Lorder) .none kV doc pm an cdv ct) ⟨us, []⟩ = pure ((["spring", "works", "most"] : List Str).zip us) := by obtain ⟨_, _, rfl, h1⟩ := lenS hl; obtain ⟨_, _, rfl, h2⟩ := lenS h1; obtain ⟨_, _, rfl, h3⟩ := lenS h2; cases len0 h3; rfl
theorem bi_Lsame (kV doc pm : Value) (an : Option Addr) (cdv ct : Value) (us : List Value) (hl : us.length = (["found", "due"] : List Str).length) : bindArgs (PySem.W.fnOf "_law_same" "_law_same" (defArgs s_Lsame) (defBody s_Lsame) (defScope s_Lsame) .none kV doc pm an cdv ct) ⟨us, []⟩ = pure ((["found", "due"] : List Str).zip us) := by obtain ⟨_, _, rfl, h1⟩ := lenS hl; obtain ⟨_, _, rfl, h2⟩ := lenS h1; cases len0 h2; rfl
theorem bi_Lnumbers (kV doc pm : Value) (an : Option Addr) (cdv ct : Value) (us : List Value) (hl : us.length = (["spring", "room"] : List Str).length) : bindArgs (PySem.W.fnOf "_law_numbers" "_law_numbers" (defArgs s_Lnumbers) (defBody s_Lnumbers) (defScope s_Lnumbers) .none kV doc pm an cdv ct) ⟨us, []⟩ = pure ((["spring", "room"] : List Str).zip us) := by obtain ⟨_, _, rfl, h1⟩ := lenS hl; obtain ⟨_, _, rfl, h2⟩ := lenS h1; cases len0 h2; rfl
theorem bi_Lweb_told (kV doc pm : Value) (an : Option Addr) (cdv ct : Value) (us : List Value) (hl : us.length = (["program", "order", "numbers", "style"] : List Str).length) : bindArgs (PySem.W.fnOf "_law_web_told" "_law_web_told" (defArgs s_Lweb_told) (defBody s_Lweb_told) (defScope s_Lweb_told) .none kV doc pm an cdv ct) ⟨us, []⟩ = pure ((["program", "order", "numbers", "style"] : List Str).zip us) := by obtain ⟨_, _, rfl, h1⟩ := lenS hl; obtain ⟨_, _, rfl, h2⟩ := lenS h1; obtain ⟨_, _, rfl, h3⟩ := lenS h2; obtain ⟨_, _, rfl, h4⟩ := lenS h3; cases len0 h4; rfl
theorem bi_Ltouches_told (kV doc pm : Value) (an : Option Addr) (cdv ct : Value) (us : List Value) (hl : us.length = (["program", "order", "numbers", "style"] : List Str).length) : bindArgs (PySem.W.fnOf "_law_touches_told" "_law_touches_told" (defArgs s_Ltouches_told) (defBody s_Ltouches_told) (defScope s_Ltouches_told) .none kV doc pm an cdv ct) ⟨us, []⟩ = pure ((["program", "order", "numbers", "style"] : List Str).zip us) := by obtain ⟨_, _, rfl, h1⟩ := lenS hl; obtain ⟨_, _, rfl, h2⟩ := lenS h1; obtain ⟨_, _, rfl, h3⟩ := lenS h2; obtain ⟨_, _, rfl, h4⟩ := lenS h3; cases len0 h4; rfl
theorem bi_Ldue (kV doc pm : Value) (an : Option Addr) (cdv ct : Value) (us : List Value) (hl : us.length = (["program", "order", "numbers"] : List Str).length) : bindArgs (PySem.W.fnOf "_law_due" "_law_due" (defArgs s_Ldue) (defBody s_Ldue) (defScope s_Ldue) .none kV doc pm an cdv ct) ⟨us, []⟩ = pure ((["program", "order", "numbers"] : List Str).zip us) := by obtain ⟨_, _, rfl, h1⟩ := lenS hl; obtain ⟨_, _, rfl, h2⟩ := lenS h1; obtain ⟨_, _, rfl, h3⟩ := lenS h2; cases len0 h3; rfl
theorem all_mk {l : PySem.W.OpenLaw} {w : World} {K : PySem.W.Frag} {h : Heap} {mg : Str → Option Value} {fa f0 f1 f2 f3 f4 f5 f6 f7 f8 f9 f10 f11 f12 f13 f14 f15 f16 f17 f18 f19 f20 f21 f22 f23 f24 f25 f26 f27 f28 f29 f30 C_Hand C_Works C_NoNumber C_NoHand C_Over : Addr} (X : K.In h) (G : h.Ns mainGlobals mg) (hfa : mg "law" = some (.ref fa))
    {od0 an0 od1 an1 od2 an2 od3 an3 od4 an4 od5 an5 od6 an6 od7 an7 od8 an8 od9 an9 od10 an10 od11 an11 od12 an12 od13 an13 od14 an14 od15 an15 od16 an16 od17 an17 od18 an18 od19 an19 od20 an20 od21 an21 od22 an22 od23 an23 od24 an24 od25 an25 od26 an26 od27 an27 od28 an28 od29 an29 od30 an30 : Option Addr} {sl0 sl1 sl2 sl3 sl4 sl5 sl6 sl7 sl8 sl9 sl10 sl11 sl12 sl13 sl14 sl15 sl16 sl17 sl18 sl19 sl20 sl21 sl22 sl23 sl24 sl25 sl26 sl27 sl28 sl29 sl30 : Array (Option Value)} {oc0 kV0 dc0 pm0 cd0 ct0 oc1 kV1 dc1 pm1 cd1 ct1 oc2 kV2 dc2 pm2 cd2 ct2 oc3 kV3 dc3 pm3 cd3 ct3 oc4 kV4 dc4 pm4 cd4 ct4 oc5 kV5 dc5 pm5 cd5 ct5 oc6 kV6 dc6 pm6 cd6 ct6 oc7 kV7 dc7 pm7 cd7 ct7 oc8 kV8 dc8 pm8 cd8 ct8 oc9 kV9 dc9 pm9 cd9 ct9 oc10 kV10 dc10 pm10 cd10 ct10 oc11 kV11 dc11 pm11 cd11 ct11 oc12 kV12 dc12 pm12 cd12 ct12 oc13 kV13 dc13 pm13 cd13 ct13 oc14 kV14 dc14 pm14 cd14 ct14 oc15 kV15 dc15 pm15 cd15 ct15 oc16 kV16 dc16 pm16 cd16 ct16 oc17 kV17 dc17 pm17 cd17 ct17 oc18 kV18 dc18 pm18 cd18 ct18 oc19 kV19 dc19 pm19 cd19 ct19 oc20 kV20 dc20 pm20 cd20 ct20 oc21 kV21 dc21 pm21 cd21 ct21 oc22 kV22 dc22 pm22 cd22 ct22 oc23 kV23 dc23 pm23 cd23 ct23 oc24 kV24 dc24 pm24 cd24 ct24 oc25 kV25 dc25 pm25 cd25 ct25 oc26 kV26 dc26 pm26 cd26 ct26 oc27 kV27 dc27 pm27 cd27 ct27 oc28 kV28 dc28 pm28 cd28 ct28 oc29 kV29 dc29 pm29 cd29 ct29 oc30 kV30 dc30 pm30 cd30 ct30 : Value}
    (a0 : PySem.W.nsIn K mainGlobals "is_whole" = some (some (.ref f0))) (l0 : K.lookup f0 = some ⟨oc0, od0, .func (PySem.W.fnOf "is_whole" "is_whole" (defArgs s_is_whole) (defBody s_is_whole) (defScope s_is_whole) .none kV0 dc0 pm0 an0 cd0 ct0), sl0⟩) (c0 : PySem.W.codeIn K cd0 "is_whole" = true) (k0 : PySem.W.keepIn K (.ref f0) = true)
    (a1 : PySem.W.nsIn K mainGlobals "is_below" = some (some (.ref f1))) (l1 : K.lookup f1 = some ⟨oc1, od1, .func (PySem.W.fnOf "is_below" "is_below" (defArgs s_is_below) (defBody s_is_below) (defScope s_is_below) .none kV1 dc1 pm1 an1 cd1 ct1), sl1⟩) (c1 : PySem.W.codeIn K cd1 "is_below" = true) (k1 : PySem.W.keepIn K (.ref f1) = true)
    (a2 : PySem.W.findIn K (.ref C_Hand) "__init__" = some (some (.ref f2))) (l2 : K.lookup f2 = some ⟨oc2, od2, .func (PySem.W.fnOf "__init__" "Hand.__init__" (defArgs s_Hand_init) (defBody s_Hand_init) (defScope s_Hand_init) .none kV2 dc2 pm2 an2 cd2 ct2), sl2⟩) (c2 : PySem.W.codeIn K cd2 "Hand.__init__" = true) (k2 : PySem.W.keepIn K (.ref f2) = true) (n2 : PySem.W.isFn K (.ref f2) = true)
    (a3 : PySem.W.nsIn K mainGlobals "cell_of" = some (some (.ref f3))) (l3 : K.lookup f3 = some ⟨oc3, od3, .func (PySem.W.fnOf "cell_of" "cell_of" (defArgs s_cell_of) (defBody s_cell_of) (defScope s_cell_of) .none kV3 dc3 pm3 an3 cd3 ct3), sl3⟩) (c3 : PySem.W.codeIn K cd3 "cell_of" = true) (k3 : PySem.W.keepIn K (.ref f3) = true)
    (a4 : PySem.W.findIn K (.ref C_Hand) "value_of" = some (some (.ref f4))) (l4 : K.lookup f4 = some ⟨oc4, od4, .func (PySem.W.fnOf "value_of" "Hand.value_of" (defArgs s_Hand_value_of) (defBody s_Hand_value_of) (defScope s_Hand_value_of) .none kV4 dc4 pm4 an4 cd4 ct4), sl4⟩) (c4 : PySem.W.codeIn K cd4 "Hand.value_of" = true) (k4 : PySem.W.keepIn K (.ref f4) = true) (n4 : PySem.W.isFn K (.ref f4) = true)
    (a5 : PySem.W.findIn K (.ref C_Hand) "holds" = some (some (.ref f5))) (l5 : K.lookup f5 = some ⟨oc5, od5, .func (PySem.W.fnOf "holds" "Hand.holds" (defArgs s_Hand_holds) (defBody s_Hand_holds) (defScope s_Hand_holds) .none kV5 dc5 pm5 an5 cd5 ct5), sl5⟩) (c5 : PySem.W.codeIn K cd5 "Hand.holds" = true) (k5 : PySem.W.keepIn K (.ref f5) = true) (n5 : PySem.W.isFn K (.ref f5) = true)
    (a6 : PySem.W.findIn K (.ref C_Hand) "take" = some (some (.ref f6))) (l6 : K.lookup f6 = some ⟨oc6, od6, .func (PySem.W.fnOf "take" "Hand.take" (defArgs s_Hand_take) (defBody s_Hand_take) (defScope s_Hand_take) .none kV6 dc6 pm6 an6 cd6 ct6), sl6⟩) (c6 : PySem.W.codeIn K cd6 "Hand.take" = true) (k6 : PySem.W.keepIn K (.ref f6) = true) (n6 : PySem.W.isFn K (.ref f6) = true)
    (a7 : PySem.W.findIn K (.ref C_Hand) "do" = some (some (.ref f7))) (l7 : K.lookup f7 = some ⟨oc7, od7, .func (PySem.W.fnOf "do" "Hand.do" (defArgs s_Hand_do) (defBody s_Hand_do) (defScope s_Hand_do) .none kV7 dc7 pm7 an7 cd7 ct7), sl7⟩) (c7 : PySem.W.codeIn K cd7 "Hand.do" = true) (k7 : PySem.W.keepIn K (.ref f7) = true) (n7 : PySem.W.isFn K (.ref f7) = true)
    (a8 : PySem.W.findIn K (.ref C_Hand) "lead_on" = some (some (.ref f8))) (l8 : K.lookup f8 = some ⟨oc8, od8, .func (PySem.W.fnOf "lead_on" "Hand.lead_on" (defArgs s_Hand_lead_on) (defBody s_Hand_lead_on) (defScope s_Hand_lead_on) .none kV8 dc8 pm8 an8 cd8 ct8), sl8⟩) (c8 : PySem.W.codeIn K cd8 "Hand.lead_on" = true) (k8 : PySem.W.keepIn K (.ref f8) = true) (n8 : PySem.W.isFn K (.ref f8) = true)
    (a9 : PySem.W.nsIn K mainGlobals "check_numbers" = some (some (.ref f9))) (l9 : K.lookup f9 = some ⟨oc9, od9, .func (PySem.W.fnOf "check_numbers" "check_numbers" (defArgs s_check_numbers) (defBody s_check_numbers) (defScope s_check_numbers) .none kV9 dc9 pm9 an9 cd9 ct9), sl9⟩) (c9 : PySem.W.codeIn K cd9 "check_numbers" = true) (k9 : PySem.W.keepIn K (.ref f9) = true)
    (a10 : PySem.W.findIn K (.ref C_Works) "touch_by" = some (some (.ref f10))) (l10 : K.lookup f10 = some ⟨oc10, od10, .func (PySem.W.fnOf "touch_by" "Works.touch_by" (defArgs s_Works_touch_by) (defBody s_Works_touch_by) (defScope s_Works_touch_by) .none kV10 dc10 pm10 an10 cd10 ct10), sl10⟩) (c10 : PySem.W.codeIn K cd10 "Works.touch_by" = true) (k10 : PySem.W.keepIn K (.ref f10) = true) (n10 : PySem.W.isFn K (.ref f10) = true)
    (a11 : PySem.W.findIn K (.ref C_Works) "hand_of" = some (some (.ref f11))) (l11 : K.lookup f11 = some ⟨oc11, od11, .func (PySem.W.fnOf "hand_of" "Works.hand_of" (defArgs s_Works_hand_of) (defBody s_Works_hand_of) (defScope s_Works_hand_of) .none kV11 dc11 pm11 an11 cd11 ct11), sl11⟩) (c11 : PySem.W.codeIn K cd11 "Works.hand_of" = true) (k11 : PySem.W.keepIn K (.ref f11) = true) (n11 : PySem.W.isFn K (.ref f11) = true)
    (a12 : PySem.W.findIn K (.ref C_Works) "turn" = some (some (.ref f12))) (l12 : K.lookup f12 = some ⟨oc12, od12, .func (PySem.W.fnOf "turn" "Works.turn" (defArgs s_Works_turn) (defBody s_Works_turn) (defScope s_Works_turn) .none kV12 dc12 pm12 an12 cd12 ct12), sl12⟩) (c12 : PySem.W.codeIn K cd12 "Works.turn" = true) (k12 : PySem.W.keepIn K (.ref f12) = true) (n12 : PySem.W.isFn K (.ref f12) = true)
    {T13 : Addr} {tc13 : Value} {td13 : Option Addr} {tn13 : Nat} {tsl13 : Array (Option Value)} (a13 : PySem.W.findIn K (.ref C_Works) "__init__" = some (some (.ref f13))) (l13 : K.lookup f13 = some ⟨oc13, od13, .func (PySem.W.fnOf "__init__" "Works.__init__" (defArgs s_Works_init) (defBody s_Works_init) (defScope s_Works_init) (.ref T13) kV13 dc13 pm13 an13 cd13 ct13), sl13⟩) (c13 : PySem.W.codeIn K cd13 "Works.__init__" = true) (k13 : PySem.W.keepIn K (.ref f13) = true) (n13 : PySem.W.isFn K (.ref f13) = true) (d13 : K.lookup T13 = some ⟨tc13, td13, .seq #[.none] tn13, tsl13⟩)
    (a14 : PySem.W.findIn K (.ref C_Works) "how" = some (some (.ref f14))) (l14 : K.lookup f14 = some ⟨oc14, od14, .func (PySem.W.fnOf "how" "Works.how" (defArgs s_Works_how) (defBody s_Works_how) (defScope s_Works_how) .none kV14 dc14 pm14 an14 cd14 ct14), sl14⟩) (c14 : PySem.W.codeIn K cd14 "Works.how" = true) (k14 : PySem.W.keepIn K (.ref f14) = true) (n14 : PySem.W.isFn K (.ref f14) = true)
    (a15 : PySem.W.findIn K (.ref C_Works) "counts" = some (some (.ref f15))) (l15 : K.lookup f15 = some ⟨oc15, od15, .func (PySem.W.fnOf "counts" "Works.counts" (defArgs s_Works_counts) (defBody s_Works_counts) (defScope s_Works_counts) .none kV15 dc15 pm15 an15 cd15 ct15), sl15⟩) (c15 : PySem.W.codeIn K cd15 "Works.counts" = true) (k15 : PySem.W.keepIn K (.ref f15) = true) (n15 : PySem.W.isFn K (.ref f15) = true)
    {T16 : Addr} {tc16 : Value} {td16 : Option Addr} {tn16 : Nat} {tsl16 : Array (Option Value)} (a16 : PySem.W.nsIn K mainGlobals "web_of" = some (some (.ref f16))) (l16 : K.lookup f16 = some ⟨oc16, od16, .func (PySem.W.fnOf "web_of" "web_of" (defArgs s_web_of) (defBody s_web_of) (defScope s_web_of) (.ref T16) kV16 dc16 pm16 an16 cd16 ct16), sl16⟩) (c16 : PySem.W.codeIn K cd16 "web_of" = true) (k16 : PySem.W.keepIn K (.ref f16) = true) (d16 : K.lookup T16 = some ⟨tc16, td16, .seq #[.none] tn16, tsl16⟩)
    {T17 : Addr} {tc17 : Value} {td17 : Option Addr} {tn17 : Nat} {tsl17 : Array (Option Value)} (a17 : PySem.W.nsIn K mainGlobals "touches_of" = some (some (.ref f17))) (l17 : K.lookup f17 = some ⟨oc17, od17, .func (PySem.W.fnOf "touches_of" "touches_of" (defArgs s_touches_of) (defBody s_touches_of) (defScope s_touches_of) (.ref T17) kV17 dc17 pm17 an17 cd17 ct17), sl17⟩) (c17 : PySem.W.codeIn K cd17 "touches_of" = true) (k17 : PySem.W.keepIn K (.ref f17) = true) (d17 : K.lookup T17 = some ⟨tc17, td17, .seq #[.none] tn17, tsl17⟩)
    (a18 : PySem.W.nsIn K mainGlobals "_law_spring" = some (some (.ref f18))) (l18 : K.lookup f18 = some ⟨oc18, od18, .func (PySem.W.fnOf "_law_spring" "_law_spring" (defArgs s_Lspring) (defBody s_Lspring) (defScope s_Lspring) .none kV18 dc18 pm18 an18 cd18 ct18), sl18⟩) (c18 : PySem.W.codeIn K cd18 "_law_spring" = true) (k18 : PySem.W.keepIn K (.ref f18) = true)
    (a19 : PySem.W.nsIn K mainGlobals "_law_draw" = some (some (.ref f19))) (l19 : K.lookup f19 = some ⟨oc19, od19, .func (PySem.W.fnOf "_law_draw" "_law_draw" (defArgs s_Ldraw) (defBody s_Ldraw) (defScope s_Ldraw) .none kV19 dc19 pm19 an19 cd19 ct19), sl19⟩) (c19 : PySem.W.codeIn K cd19 "_law_draw" = true) (k19 : PySem.W.keepIn K (.ref f19) = true)
    (a20 : PySem.W.nsIn K mainGlobals "_law_value" = some (some (.ref f20))) (l20 : K.lookup f20 = some ⟨oc20, od20, .func (PySem.W.fnOf "_law_value" "_law_value" (defArgs s_Lvalue) (defBody s_Lvalue) (defScope s_Lvalue) .none kV20 dc20 pm20 an20 cd20 ct20), sl20⟩) (c20 : PySem.W.codeIn K cd20 "_law_value" = true) (k20 : PySem.W.keepIn K (.ref f20) = true)
    (a21 : PySem.W.nsIn K mainGlobals "_law_worth" = some (some (.ref f21))) (l21 : K.lookup f21 = some ⟨oc21, od21, .func (PySem.W.fnOf "_law_worth" "_law_worth" (defArgs s_Lworth) (defBody s_Lworth) (defScope s_Lworth) .none kV21 dc21 pm21 an21 cd21 ct21), sl21⟩) (c21 : PySem.W.codeIn K cd21 "_law_worth" = true) (k21 : PySem.W.keepIn K (.ref f21) = true)
    (a22 : PySem.W.nsIn K mainGlobals "_law_line" = some (some (.ref f22))) (l22 : K.lookup f22 = some ⟨oc22, od22, .func (PySem.W.fnOf "_law_line" "_law_line" (defArgs s_Lline) (defBody s_Lline) (defScope s_Lline) .none kV22 dc22 pm22 an22 cd22 ct22), sl22⟩) (c22 : PySem.W.codeIn K cd22 "_law_line" = true) (k22 : PySem.W.keepIn K (.ref f22) = true)
    (a23 : PySem.W.nsIn K mainGlobals "_law_program" = some (some (.ref f23))) (l23 : K.lookup f23 = some ⟨oc23, od23, .func (PySem.W.fnOf "_law_program" "_law_program" (defArgs s_Lprogram) (defBody s_Lprogram) (defScope s_Lprogram) .none kV23 dc23 pm23 an23 cd23 ct23), sl23⟩) (c23 : PySem.W.codeIn K cd23 "_law_program" = true) (k23 : PySem.W.keepIn K (.ref f23) = true)
    (a24 : PySem.W.nsIn K mainGlobals "_law_order" = some (some (.ref f24))) (l24 : K.lookup f24 = some ⟨oc24, od24, .func (PySem.W.fnOf "_law_order" "_law_order" (defArgs s_Lorder) (defBody s_Lorder) (defScope s_Lorder) .none kV24 dc24 pm24 an24 cd24 ct24), sl24⟩) (c24 : PySem.W.codeIn K cd24 "_law_order" = true) (k24 : PySem.W.keepIn K (.ref f24) = true)
    (a25 : PySem.W.nsIn K mainGlobals "_law_same" = some (some (.ref f25))) (l25 : K.lookup f25 = some ⟨oc25, od25, .func (PySem.W.fnOf "_law_same" "_law_same" (defArgs s_Lsame) (defBody s_Lsame) (defScope s_Lsame) .none kV25 dc25 pm25 an25 cd25 ct25), sl25⟩) (c25 : PySem.W.codeIn K cd25 "_law_same" = true) (k25 : PySem.W.keepIn K (.ref f25) = true)
    (a26 : PySem.W.nsIn K mainGlobals "_law_numbers" = some (some (.ref f26))) (l26 : K.lookup f26 = some ⟨oc26, od26, .func (PySem.W.fnOf "_law_numbers" "_law_numbers" (defArgs s_Lnumbers) (defBody s_Lnumbers) (defScope s_Lnumbers) .none kV26 dc26 pm26 an26 cd26 ct26), sl26⟩) (c26 : PySem.W.codeIn K cd26 "_law_numbers" = true) (k26 : PySem.W.keepIn K (.ref f26) = true)
    (a27 : PySem.W.nsIn K mainGlobals "_law_web_told" = some (some (.ref f27))) (l27 : K.lookup f27 = some ⟨oc27, od27, .func (PySem.W.fnOf "_law_web_told" "_law_web_told" (defArgs s_Lweb_told) (defBody s_Lweb_told) (defScope s_Lweb_told) .none kV27 dc27 pm27 an27 cd27 ct27), sl27⟩) (c27 : PySem.W.codeIn K cd27 "_law_web_told" = true) (k27 : PySem.W.keepIn K (.ref f27) = true)
    (a28 : PySem.W.nsIn K mainGlobals "_law_touches_told" = some (some (.ref f28))) (l28 : K.lookup f28 = some ⟨oc28, od28, .func (PySem.W.fnOf "_law_touches_told" "_law_touches_told" (defArgs s_Ltouches_told) (defBody s_Ltouches_told) (defScope s_Ltouches_told) .none kV28 dc28 pm28 an28 cd28 ct28), sl28⟩) (c28 : PySem.W.codeIn K cd28 "_law_touches_told" = true) (k28 : PySem.W.keepIn K (.ref f28) = true)
    (a29 : PySem.W.nsIn K mainGlobals "_law_due" = some (some (.ref f29))) (l29 : K.lookup f29 = some ⟨oc29, od29, .func (PySem.W.fnOf "_law_due" "_law_due" (defArgs s_Ldue) (defBody s_Ldue) (defScope s_Ldue) .none kV29 dc29 pm29 an29 cd29 ct29), sl29⟩) (c29 : PySem.W.codeIn K cd29 "_law_due" = true) (k29 : PySem.W.keepIn K (.ref f29) = true)
    (a30 : PySem.W.nsIn K mainGlobals "law" = some (some (.ref f30))) (l30 : K.lookup f30 = some ⟨oc30, od30, .func (PySem.W.fnOf "law" "law" (defArgs s_law) (defBody s_law) (defScope s_law) .none kV30 dc30 pm30 an30 cd30 ct30), sl30⟩) (c30 : PySem.W.codeIn K cd30 "law" = true) (k30 : PySem.W.keepIn K (.ref f30) = true)
    (za_Hand : PySem.W.nsIn K mainGlobals "Hand" = some (some (.ref C_Hand)))
    (zpg_Hand : PySem.W.plainGet K C_Hand Str.empty = true)
    (zhd_Hand : PySem.W.hasDictIn K C_Hand = true)
    (zpo_Hand : PySem.W.plainOver K C_Hand = true)
    (zsa_Hand : PySem.W.findIn K (.ref C_Hand) "__setattr__" = some (some (.builtin "object.__setattr__")))
    (zmk_Hand : PySem.W.makesIn K C_Hand = true)
    (zkp_Hand : PySem.W.keepIn K (.ref C_Hand) = true)
    (zn_Hand_rows : PySem.W.findIn K (.ref C_Hand) "rows" = some none)
    (zn_Hand_at : PySem.W.findIn K (.ref C_Hand) "at" = some none)
    (zn_Hand_in_boxes : PySem.W.findIn K (.ref C_Hand) "in_boxes" = some none)
    (zn_Hand_sayings : PySem.W.findIn K (.ref C_Hand) "sayings" = some none)
    (zn_Hand_state : PySem.W.findIn K (.ref C_Hand) "state" = some none)
    (za_Works : PySem.W.nsIn K mainGlobals "Works" = some (some (.ref C_Works)))
    (zpg_Works : PySem.W.plainGet K C_Works Str.empty = true)
    (zhd_Works : PySem.W.hasDictIn K C_Works = true)
    (zpo_Works : PySem.W.plainOver K C_Works = true)
    (zsa_Works : PySem.W.findIn K (.ref C_Works) "__setattr__" = some (some (.builtin "object.__setattr__")))
    (zmk_Works : PySem.W.makesIn K C_Works = true)
    (zkp_Works : PySem.W.keepIn K (.ref C_Works) = true)
    (zn_Works_program : PySem.W.findIn K (.ref C_Works) "program" = some none)
    (zn_Works_numbers : PySem.W.findIn K (.ref C_Works) "numbers" = some none)
    (zn_Works_hands : PySem.W.findIn K (.ref C_Works) "hands" = some none)
    (zn_Works_turns : PySem.W.findIn K (.ref C_Works) "turns" = some none)
    (ycg : PySem.W.specialIn K (.builtin "object.__class__") "__get__" = some (some (.builtin "getset_descriptor.__get__")))
    (yct : PySem.W.takesIn K (.builtin "object.__class__") = some true)
    (yca_Works : PySem.W.findIn K (.ref C_Works) "__class__" = some (some (.builtin "object.__class__")))
    (ymo_Works : PySem.W.mroIn K C_Works (.type "object") = some true)
    (xa_NoNumber : PySem.W.nsIn K mainGlobals "NoNumber" = some (some (.ref C_NoNumber)))
    (xcl_NoNumber : (PySem.W.clsIn K C_NoNumber).isSome = true)
    (xty_NoNumber : PySem.W.typeIn K (.ref C_NoNumber) = some (.type "type"))
    (xbs_NoNumber : PySem.W.subIn K (.ref C_NoNumber) (.type "BaseException") = some true)
    (xa_NoHand : PySem.W.nsIn K mainGlobals "NoHand" = some (some (.ref C_NoHand)))
    (xcl_NoHand : (PySem.W.clsIn K C_NoHand).isSome = true)
    (xty_NoHand : PySem.W.typeIn K (.ref C_NoHand) = some (.type "type"))
    (xbs_NoHand : PySem.W.subIn K (.ref C_NoHand) (.type "BaseException") = some true)
    (xa_Over : PySem.W.nsIn K mainGlobals "Over" = some (some (.ref C_Over)))
    (xcl_Over : (PySem.W.clsIn K C_Over).isSome = true)
    (xty_Over : PySem.W.typeIn K (.ref C_Over) = some (.type "type"))
    (xbs_Over : PySem.W.subIn K (.ref C_Over) (.type "BaseException") = some true)
    (xne_NoHand_NoNumber : (Value.ref C_NoHand == Value.ref C_NoNumber) = false)
    (xsb_NoHand_NoNumber : PySem.W.subIn K (.ref C_NoHand) (.ref C_NoNumber) = some false)
    (xne_Over_NoNumber : (Value.ref C_Over == Value.ref C_NoNumber) = false)
    (xsb_Over_NoNumber : PySem.W.subIn K (.ref C_Over) (.ref C_NoNumber) = some false)
    (xne_Over_NoHand : (Value.ref C_Over == Value.ref C_NoHand) = false)
    (xsb_Over_NoHand : PySem.W.subIn K (.ref C_Over) (.ref C_NoHand) = some false)
    (xcg : PySem.W.specialIn K (.builtin "object.__class__") "__get__" = some (some (.builtin "getset_descriptor.__get__")))
    (xct : PySem.W.takesIn K (.builtin "object.__class__") = some true)
    (xga_NoNumber : PySem.W.findIn K (.ref C_NoNumber) "__getattribute__" = some (some (.builtin "BaseException.__getattribute__")))
    (xgk_NoNumber : PySem.W.findIn K (.ref C_NoNumber) "__getattr__" = some none)
    (xmB_NoNumber : PySem.W.mroIn K C_NoNumber (.type "BaseException") = some true)
    (xca_NoNumber : PySem.W.findIn K (.ref C_NoNumber) "__class__" = some (some (.builtin "object.__class__")))
    (xmo_NoNumber : PySem.W.mroIn K C_NoNumber (.type "object") = some true)
    (xve_NoNumber : PySem.W.subIn K (.ref C_NoNumber) (.type "ValueError") = some true)
    (xex_NoNumber : PySem.W.excIn K C_NoNumber [.type "ValueError", .type "Exception", .type "BaseException", .type "object"] "ValueError.__new__" = true)
    (xga_NoHand : PySem.W.findIn K (.ref C_NoHand) "__getattribute__" = some (some (.builtin "BaseException.__getattribute__")))
    (xgk_NoHand : PySem.W.findIn K (.ref C_NoHand) "__getattr__" = some none)
    (xmB_NoHand : PySem.W.mroIn K C_NoHand (.type "BaseException") = some true)
    (xca_NoHand : PySem.W.findIn K (.ref C_NoHand) "__class__" = some (some (.builtin "object.__class__")))
    (xmo_NoHand : PySem.W.mroIn K C_NoHand (.type "object") = some true)
    (xve_NoHand : PySem.W.subIn K (.ref C_NoHand) (.type "ValueError") = some true)
    (xex_NoHand : PySem.W.excIn K C_NoHand [.type "ValueError", .type "Exception", .type "BaseException", .type "object"] "ValueError.__new__" = true)
    (xga_Over : PySem.W.findIn K (.ref C_Over) "__getattribute__" = some (some (.builtin "BaseException.__getattribute__")))
    (xgk_Over : PySem.W.findIn K (.ref C_Over) "__getattr__" = some none)
    (xmB_Over : PySem.W.mroIn K C_Over (.type "BaseException") = some true)
    (xca_Over : PySem.W.findIn K (.ref C_Over) "__class__" = some (some (.builtin "object.__class__")))
    (xmo_Over : PySem.W.mroIn K C_Over (.type "object") = some true)
    (xve_Over : PySem.W.subIn K (.ref C_Over) (.type "ValueError") = some true)
    (xex_Over : PySem.W.excIn K C_Over [.type "ValueError", .type "Exception", .type "BaseException", .type "object"] "ValueError.__new__" = true)
    {gt_BOXES : Tok} (g_BOXES : PySem.W.nsIn K mainGlobals "BOXES" = some (some (.str "abcdefgh" gt_BOXES)))
    {gt_ROUND : Tok} (g_ROUND : PySem.W.nsIn K mainGlobals "ROUND" = some (some (.int 1000 gt_ROUND)))
    {gt_MOST_UNTOUCHING : Tok} (g_MOST_UNTOUCHING : PySem.W.nsIn K mainGlobals "MOST_UNTOUCHING" = some (some (.int 60 gt_MOST_UNTOUCHING)))
    (z_abs : PySem.W.nsIn K mainGlobals "abs" = some none) (z_all : PySem.W.nsIn K mainGlobals "all" = some none) (z_any : PySem.W.nsIn K mainGlobals "any" = some none) (z_bool : PySem.W.nsIn K mainGlobals "bool" = some none) (z_enumerate : PySem.W.nsIn K mainGlobals "enumerate" = some none) (z_int : PySem.W.nsIn K mainGlobals "int" = some none) (z_isinstance : PySem.W.nsIn K mainGlobals "isinstance" = some none) (z_len : PySem.W.nsIn K mainGlobals "len" = some none) (z_list : PySem.W.nsIn K mainGlobals "list" = some none) (z_max : PySem.W.nsIn K mainGlobals "max" = some none) (z_min : PySem.W.nsIn K mainGlobals "min" = some none) (z_range : PySem.W.nsIn K mainGlobals "range" = some none) (z_sorted : PySem.W.nsIn K mainGlobals "sorted" = some none) (z_tuple : PySem.W.nsIn K mainGlobals "tuple" = some none) (z_zip : PySem.W.nsIn K mainGlobals "zip" = some none) :
    ∃ fd : FuncData, (∀ (s : Shared) (v : Value), BindsTo s fd ⟨[v], []⟩ [("script", v)]) ∧ ∀ base : Heap, K.In base → base.Ns mainGlobals mg → FnOk l.prog w K mg base CX0 11 fa fd ["script"] (spLaw K) := by
  have e := hfa.symm.trans (PySem.W.mg_of X G a30)
  cases e
  have Bt : Blt mg := ⟨PySem.W.mg_none_of X G z_abs, PySem.W.mg_none_of X G z_all, PySem.W.mg_none_of X G z_any, PySem.W.mg_none_of X G z_bool, PySem.W.mg_none_of X G z_enumerate, PySem.W.mg_none_of X G z_int, PySem.W.mg_none_of X G z_isinstance, PySem.W.mg_none_of X G z_len, PySem.W.mg_none_of X G z_list, PySem.W.mg_none_of X G z_max, PySem.W.mg_none_of X G z_min, PySem.W.mg_none_of X G z_range, PySem.W.mg_none_of X G z_sorted, PySem.W.mg_none_of X G z_tuple, PySem.W.mg_none_of X G z_zip⟩
  have Z_Hand : Cl_Hand K C_Hand := ⟨⟨zpg_Hand, zhd_Hand, zpo_Hand, zsa_Hand⟩, zn_Hand_rows, zn_Hand_at, zn_Hand_in_boxes, zn_Hand_sayings, zn_Hand_state⟩
  have Z_Works : Cl_Works K C_Works := ⟨⟨zpg_Works, zhd_Works, zpo_Works, zsa_Works⟩, zn_Works_program, zn_Works_numbers, zn_Works_hands, zn_Works_turns⟩
  have Y_Works : IsO K mg C_Works "Works" := ⟨PySem.W.mg_of X G za_Works, yca_Works, ycg, yct, ymo_Works⟩
  have G_BOXES : Gv mg "BOXES" (.str "abcdefgh") := ⟨_, PySem.W.mg_of X G g_BOXES, ⟨_, rfl⟩⟩
  have G_ROUND : Gv mg "ROUND" (.int 1000) := ⟨_, PySem.W.mg_of X G g_ROUND, ⟨_, rfl⟩⟩
  have G_MOST_UNTOUCHING : Gv mg "MOST_UNTOUCHING" (.int 60) := ⟨_, PySem.W.mg_of X G g_MOST_UNTOUCHING, ⟨_, rfl⟩⟩
  have X_NoNumber : Xr K mg C_NoNumber "NoNumber" := ⟨PySem.W.mg_of X G xa_NoNumber, ⟨xcl_NoNumber, xty_NoNumber, xbs_NoNumber⟩, ⟨xga_NoNumber, xgk_NoNumber, xmB_NoNumber, xcl_NoNumber, xca_NoNumber, xcg, xct, xmo_NoNumber⟩, xex_NoNumber, xve_NoNumber⟩
  have X_NoHand : Xr K mg C_NoHand "NoHand" := ⟨PySem.W.mg_of X G xa_NoHand, ⟨xcl_NoHand, xty_NoHand, xbs_NoHand⟩, ⟨xga_NoHand, xgk_NoHand, xmB_NoHand, xcl_NoHand, xca_NoHand, xcg, xct, xmo_NoHand⟩, xex_NoHand, xve_NoHand⟩
  have X_Over : Xr K mg C_Over "Over" := ⟨PySem.W.mg_of X G xa_Over, ⟨xcl_Over, xty_Over, xbs_Over⟩, ⟨xga_Over, xgk_Over, xmB_Over, xcl_Over, xca_Over, xcg, xct, xmo_Over⟩, xex_Over, xve_Over⟩
  have Q_NoHand_NoNumber : XPair K C_NoHand C_NoNumber false := ⟨xne_NoHand_NoNumber, xsb_NoHand_NoNumber⟩
  have Q_Over_NoNumber : XPair K C_Over C_NoNumber false := ⟨xne_Over_NoNumber, xsb_Over_NoNumber⟩
  have Q_Over_NoHand : XPair K C_Over C_NoHand false := ⟨xne_Over_NoHand, xsb_Over_NoHand⟩
  have F0 := fun_mk (st := s_is_whole) l0 c0 k0
  have F1 := fun_mk (st := s_is_below) l1 c1 k1
  have F2 := fun_mk (st := s_Hand_init) l2 c2 k2
  have F3 := fun_mk (st := s_cell_of) l3 c3 k3
  have F4 := fun_mk (st := s_Hand_value_of) l4 c4 k4
  have F5 := fun_mk (st := s_Hand_holds) l5 c5 k5
  have F6 := fun_mk (st := s_Hand_take) l6 c6 k6
  have F7 := fun_mk (st := s_Hand_do) l7 c7 k7
  have F8 := fun_mk (st := s_Hand_lead_on) l8 c8 k8
  have F9 := fun_mk (st := s_check_numbers) l9 c9 k9
  have F10 := fun_mk (st := s_Works_touch_by) l10 c10 k10
  have F11 := fun_mk (st := s_Works_hand_of) l11 c11 k11
  have F12 := fun_mk (st := s_Works_turn) l12 c12 k12
  have F13 : FunD K "__init__" "Works.__init__" s_Works_init [.none] f13 _ := ⟨⟨_, _, _, _, _, _, _, _, _, _, _, _, _, _, rfl, l13, c13, d13⟩, k13⟩
  have F14 := fun_mk (st := s_Works_how) l14 c14 k14
  have F15 := fun_mk (st := s_Works_counts) l15 c15 k15
  have F16 : FunD K "web_of" "web_of" s_web_of [.none] f16 _ := ⟨⟨_, _, _, _, _, _, _, _, _, _, _, _, _, _, rfl, l16, c16, d16⟩, k16⟩
  have F17 : FunD K "touches_of" "touches_of" s_touches_of [.none] f17 _ := ⟨⟨_, _, _, _, _, _, _, _, _, _, _, _, _, _, rfl, l17, c17, d17⟩, k17⟩
  have F18 := fun_mk (st := s_Lspring) l18 c18 k18
  have F19 := fun_mk (st := s_Ldraw) l19 c19 k19
  have F20 := fun_mk (st := s_Lvalue) l20 c20 k20
  have F21 := fun_mk (st := s_Lworth) l21 c21 k21
  have F22 := fun_mk (st := s_Lline) l22 c22 k22
  have F23 := fun_mk (st := s_Lprogram) l23 c23 k23
  have F24 := fun_mk (st := s_Lorder) l24 c24 k24
  have F25 := fun_mk (st := s_Lsame) l25 c25 k25
  have F26 := fun_mk (st := s_Lnumbers) l26 c26 k26
  have F27 := fun_mk (st := s_Lweb_told) l27 c27 k27
  have F28 := fun_mk (st := s_Ltouches_told) l28 c28 k28
  have F29 := fun_mk (st := s_Ldue) l29 c29 k29
  have F30 := fun_mk (st := s_law) l30 c30 k30
  refine ⟨PySem.W.fnOf "law" "law" (defArgs s_law) (defBody s_law) (defScope s_law) .none kV30 dc30 pm30 an30 cd30 ct30, fun s v => .of_eq rfl, fun base _ _ => ?_⟩
  have A0 : FnAt l.prog w K mg base 1 "is_whole" ["value"] (spWh K) := ⟨f0, _, ok_is_whole F0 Bt, PySem.W.mg_of X G a0, k0, F0.binds (ps := ["value"]) bi_is_whole⟩
  have A1 : FnAt l.prog w K mg base 2 "is_below" ["value", "count"] (spBelow K) := ⟨f1, _, ok_is_below F1 A0, PySem.W.mg_of X G a1, k1, F1.binds (ps := ["value", "count"]) bi_is_below⟩
  have A2 : MakeAt l.prog w K mg base 1 C_Hand "Hand" ["self", "rows"] [] (spHInit C_Hand K) := ⟨f2, _, [], ok_hinit F2 Z_Hand G_BOXES, ⟨zmk_Hand, a2, n2, zkp_Hand⟩, PySem.W.mg_of X G za_Hand, F2.binds (ps := ["self", "rows"]) bi_Hand_init, .nil⟩
  have A3 : FnAt l.prog w K mg base 1 "cell_of" ["row"] (spCellOf K) := ⟨f3, _, ok_cellOf F3 , PySem.W.mg_of X G a3, k3, F3.binds (ps := ["row"]) bi_cell_of⟩
  have R4_0 : MethAt l.prog w K mg base 1 C_Hand "value_of" ["self", "part"] (spVal C_Hand 0 K) := ⟨f4, _, ok_val0 F4, ⟨a4, n4, k4⟩, F4.binds (ps := ["self", "part"]) bi_Hand_value_of⟩
  have R4_1 : MethAt l.prog w K mg base 2 C_Hand "value_of" ["self", "part"] (spVal C_Hand 1 K) := ⟨f4, _, ok_valS (n := 0) F4 R4_0 Z_Hand G_BOXES G_ROUND, ⟨a4, n4, k4⟩, F4.binds (ps := ["self", "part"]) bi_Hand_value_of⟩
  have A4 : MethAt l.prog w K mg base 3 C_Hand "value_of" ["self", "part"] (spVal C_Hand 2 K) := ⟨f4, _, ok_valS (n := 1) F4 R4_1 Z_Hand G_BOXES G_ROUND, ⟨a4, n4, k4⟩, F4.binds (ps := ["self", "part"]) bi_Hand_value_of⟩
  have A5 : MethAt l.prog w K mg base 4 C_Hand "holds" ["self", "row"] (spHolds C_Hand K) := ⟨f5, _, ok_holds F5 A4 Z_Hand, ⟨a5, n5, k5⟩, F5.binds (ps := ["self", "row"]) bi_Hand_holds⟩
  have A6 : MethAt l.prog w K mg base 1 C_Hand "take" ["self", "box", "number"] (spTake C_Hand K) := ⟨f6, _, ok_take F6 Z_Hand G_BOXES, ⟨a6, n6, k6⟩, F6.binds (ps := ["self", "box", "number"]) bi_Hand_take⟩
  have A7 : MethAt l.prog w K mg base 5 C_Hand "do" ["self", "row"] (spDo C_Hand K) := ⟨f7, _, ok_do F7 A4 A6 A5 Z_Hand, ⟨a7, n7, k7⟩, F7.binds (ps := ["self", "row"]) bi_Hand_do⟩
  have A8 : MethAt l.prog w K mg base 6 C_Hand "lead_on" ["self"] (spLead C_Hand K) := ⟨f8, _, ok_lead F8 A3 A7 Z_Hand G_MOST_UNTOUCHING Bt, ⟨a8, n8, k8⟩, F8.binds (ps := ["self"]) bi_Hand_lead_on⟩
  have A9 : FnAtX l.prog w K mg base 3 "check_numbers" ["cells", "count"] (spCheckNum C_NoNumber K) := ⟨f9, _, ok_checkNum F9 A1 G_ROUND Bt X_NoNumber, PySem.W.mg_of X G a9, k9, F9.binds (ps := ["cells", "count"]) bi_check_numbers⟩
  have A10 : MethAt l.prog w K mg base 4 C_Works "touch_by" ["self", "one"] (spTouchBy C_Works C_Hand K) := ⟨f10, _, ok_touchBy F10 A3 A4 A6 Z_Works Z_Hand, ⟨a10, n10, k10⟩, F10.binds (ps := ["self", "one"]) bi_Works_touch_by⟩
  have A11 : MethAtX l.prog w K mg base 3 C_Works "hand_of" ["self", "hand"] (spHandOf C_Works C_Hand C_NoHand K) := ⟨f11, _, ok_handOf F11 A1 Z_Works Bt X_NoHand, ⟨a11, n11, k11⟩, F11.binds (ps := ["self", "hand"]) bi_Works_hand_of⟩
  have A12 : MethAtX l.prog w K mg base 7 C_Works "turn" ["self", "hand"] (spTurn C_Works C_Hand C_NoHand C_Over K) := ⟨f12, _, ok_turn F12 A11 A10 A8 Z_Works Z_Hand X_Over, ⟨a12, n12, k12⟩, F12.binds (ps := ["self", "hand"]) bi_Works_turn⟩
  have G13 := ok_winit F13 Z_Works Z_Hand A9 A2 A8 Bt
  have A13 : MakeAtX l.prog w K mg base 7 C_Works "Works" ["self", "program", "cells"] [] (spWInit C_Works C_Hand C_NoNumber K) := ⟨f13, _, _, G13, ⟨zmk_Works, a13, n13, zkp_Works⟩, PySem.W.mg_of X G za_Works, bd0_Works_init d13, .nil⟩
  have A13_1 : MakeAtX l.prog w K mg base 7 C_Works "Works" ["self", "program", "cells"] [.non] (spWInit C_Works C_Hand C_NoNumber K) := ⟨f13, _, _, G13, ⟨zmk_Works, a13, n13, zkp_Works⟩, PySem.W.mg_of X G za_Works, bd1_Works_init d13, .cons rfl .nil⟩
  have A13_K : MakeAtK l.prog w K mg base 7 C_Works "Works" ["self", "program", "cells"] "cells" (spWInit C_Works C_Hand C_NoNumber K) := ⟨f13, _, G13, ⟨zmk_Works, a13, n13, zkp_Works⟩, PySem.W.mg_of X G za_Works, bdK_Works_init d13⟩
  have A14 : MethAtX l.prog w K mg base 4 C_Works "how" ["self", "hand"] (spHow C_Works C_Hand C_NoHand K) := ⟨f14, _, ok_how F14 A11 Z_Works Z_Hand, ⟨a14, n14, k14⟩, F14.binds (ps := ["self", "hand"]) bi_Works_how⟩
  have A15 : MethAt l.prog w K mg base 1 C_Works "counts" ["self"] (spCounts C_Works C_Hand K) := ⟨f15, _, ok_counts F15 Z_Works Bt, ⟨a15, n15, k15⟩, F15.binds (ps := ["self"]) bi_Works_counts⟩
  have G16 := ok_webX F16 A13 A12 Z_Works
  have A16 : FnAtX l.prog w K mg base 9 "web_of" ["program", "order", "cells"] (spWebX C_Works C_Hand C_NoNumber C_NoHand C_Over K) := ⟨f16, _, G16, PySem.W.mg_of X G a16, k16, bd0_web_of d16⟩
  have A16_1 : FnAtD l.prog w K mg base 9 "web_of" ["program", "order", "cells"] [.non] (spWebX C_Works C_Hand C_NoNumber C_NoHand C_Over K) := ⟨f16, _, _, G16, PySem.W.mg_of X G a16, k16, bd1_web_of d16, .cons rfl .nil⟩
  have A16_K : FnAtK l.prog w K mg base 9 "web_of" ["program", "order", "cells"] "cells" (spWebX C_Works C_Hand C_NoNumber C_NoHand C_Over K) := ⟨f16, _, G16, PySem.W.mg_of X G a16, k16, bdK_web_of d16⟩
  have G17 := ok_touchesX F17 A13 A12 Z_Works
  have A17 : FnAtX l.prog w K mg base 9 "touches_of" ["program", "order", "cells"] (spTouchesX C_Works C_Hand C_NoNumber C_NoHand C_Over K) := ⟨f17, _, G17, PySem.W.mg_of X G a17, k17, bd0_touches_of d17⟩
  have A17_1 : FnAtD l.prog w K mg base 9 "touches_of" ["program", "order", "cells"] [.non] (spTouchesX C_Works C_Hand C_NoNumber C_NoHand C_Over K) := ⟨f17, _, _, G17, PySem.W.mg_of X G a17, k17, bd1_touches_of d17, .cons rfl .nil⟩
  have A17_K : FnAtK l.prog w K mg base 9 "touches_of" ["program", "order", "cells"] "cells" (spTouchesX C_Works C_Hand C_NoNumber C_NoHand C_Over K) := ⟨f17, _, G17, PySem.W.mg_of X G a17, k17, bdK_touches_of d17⟩
  have A18 : FnAt l.prog w K mg base 1 "_law_spring" ["script"] (spSpring K) := ⟨f18, _, ok_spring F18 Bt, PySem.W.mg_of X G a18, k18, F18.binds (ps := ["script"]) bi_Lspring⟩
  have A19 : FnAt l.prog w K mg base 1 "_law_draw" ["spring", "many"] (spDraw K) := ⟨f19, _, ok_draw F19 , PySem.W.mg_of X G a19, k19, F19.binds (ps := ["spring", "many"]) bi_Ldraw⟩
  have A20 : FnAt l.prog w K mg base 2 "_law_value" ["spring", "boxes"] (spValue K) := ⟨f20, _, ok_value F20 A19, PySem.W.mg_of X G a20, k20, F20.binds (ps := ["spring", "boxes"]) bi_Lvalue⟩
  have A21 : FnAt l.prog w K mg base 3 "_law_worth" ["spring", "boxes"] (spWorth K) := ⟨f21, _, ok_worth F21 A19 A20, PySem.W.mg_of X G a21, k21, F21.binds (ps := ["spring", "boxes"]) bi_Lworth⟩
  have A22 : FnAt l.prog w K mg base 4 "_law_line" ["spring", "room", "boxes", "many"] (spLine K) := ⟨f22, _, ok_line F22 A19 A21, PySem.W.mg_of X G a22, k22, F22.binds (ps := ["spring", "room", "boxes", "many"]) bi_Lline⟩
  have A23 : FnAt l.prog w K mg base 5 "_law_program" ["spring"] (spProg K) := ⟨f23, _, ok_prog F23 A19 A22 Bt, PySem.W.mg_of X G a23, k23, F23.binds (ps := ["spring"]) bi_Lprogram⟩
  have A24 : FnAt l.prog w K mg base 8 "_law_order" ["spring", "works", "most"] (spOrder18 C_Works C_Hand K) := ⟨f24, _, ok_order18 F24 A19 A15 A14.calm A12.calm Z_Works Bt, PySem.W.mg_of X G a24, k24, F24.binds (ps := ["spring", "works", "most"]) bi_Lorder⟩
  have R25_0 : FnAt l.prog w K mg base 1 "_law_same" ["found", "due"] (spSameL 0 K) := ⟨f25, _, ok_sameL0 F25, PySem.W.mg_of X G a25, k25, F25.binds (ps := ["found", "due"]) bi_Lsame⟩
  have R25_1 : FnAt l.prog w K mg base 2 "_law_same" ["found", "due"] (spSameL 1 K) := ⟨f25, _, ok_sameLS (n := 0) F25 R25_0 Bt, PySem.W.mg_of X G a25, k25, F25.binds (ps := ["found", "due"]) bi_Lsame⟩
  have R25_2 : FnAt l.prog w K mg base 3 "_law_same" ["found", "due"] (spSameL 2 K) := ⟨f25, _, ok_sameLS (n := 1) F25 R25_1 Bt, PySem.W.mg_of X G a25, k25, F25.binds (ps := ["found", "due"]) bi_Lsame⟩
  have R25_3 : FnAt l.prog w K mg base 4 "_law_same" ["found", "due"] (spSameL 3 K) := ⟨f25, _, ok_sameLS (n := 2) F25 R25_2 Bt, PySem.W.mg_of X G a25, k25, F25.binds (ps := ["found", "due"]) bi_Lsame⟩
  have R25_4 : FnAt l.prog w K mg base 5 "_law_same" ["found", "due"] (spSameL 4 K) := ⟨f25, _, ok_sameLS (n := 3) F25 R25_3 Bt, PySem.W.mg_of X G a25, k25, F25.binds (ps := ["found", "due"]) bi_Lsame⟩
  have A25 : FnAt l.prog w K mg base 6 "_law_same" ["found", "due"] (spSameL 5 K) := ⟨f25, _, ok_sameLS (n := 4) F25 R25_4 Bt, PySem.W.mg_of X G a25, k25, F25.binds (ps := ["found", "due"]) bi_Lsame⟩
  have A26 : FnAt l.prog w K mg base 2 "_law_numbers" ["spring", "room"] (spNum18 K) := ⟨f26, _, ok_num18 F26 A19 Bt, PySem.W.mg_of X G a26, k26, F26.binds (ps := ["spring", "room"]) bi_Lnumbers⟩
  have A27 : FnAt l.prog w K mg base 10 "_law_web_told" ["program", "order", "numbers", "style"] (spWebTold K) := ⟨f27, _, ok_webTold X_NoNumber X_NoHand X_Over Q_NoHand_NoNumber Q_Over_NoNumber Q_Over_NoHand F27 A16 A16_1 A16_K, PySem.W.mg_of X G a27, k27, F27.binds (ps := ["program", "order", "numbers", "style"]) bi_Lweb_told⟩
  have A28 : FnAt l.prog w K mg base 10 "_law_touches_told" ["program", "order", "numbers", "style"] (spTchTold K) := ⟨f28, _, ok_tchTold X_NoNumber X_NoHand X_Over Q_NoHand_NoNumber Q_Over_NoNumber Q_Over_NoHand F28 A17 A17_1 A17_K, PySem.W.mg_of X G a28, k28, F28.binds (ps := ["program", "order", "numbers", "style"]) bi_Ltouches_told⟩
  have A29 : FnAt l.prog w K mg base 9 "_law_due" ["program", "order", "numbers"] (spDue18 K) := ⟨f29, _, ok_due18 X_NoHand X_Over Q_Over_NoHand F29 A13.calm A12 Z_Works, PySem.W.mg_of X G a29, k29, F29.binds (ps := ["program", "order", "numbers"]) bi_Ldue⟩
  exact ok_law F30 A18 A19 A23 A26 A13.calm A24 A29 A27 A28 A25 Bt
theorem walk {l : PySem.W.OpenLaw} {q : Program} {loose : List Str} {XP : (Str → Option Value) → Heap → Prop} {YP : World → Heap → Prop} {d : DefRec} {K : Params → PySem.W.Frag} (hn : l.most = some 63) (hdf : d.params.defaults = [])
    (hY : ∀ (w : World) (h : Heap), YP w h → (K w.params).In h)
    (F : ∀ (w : World) (mg : Str → Option Value) (fa : Addr) (h : Heap), (K w.params).In h → h.Ns mainGlobals mg → mg d.name = some (.ref fa) →
      ∃ fd : FuncData, (∀ (s : Shared) (u : Value), BindsTo s fd ⟨[u], []⟩ [("script", u)]) ∧ ∀ base : Heap, (K w.params).In base → base.Ns mainGlobals mg → FnOk l.prog w (K w.params) mg base CX0 11 fa fd ["script"] (spLaw (K w.params))) :
    PySem.W.WalkO q loose XP YP l.row.toRowW d [] (fun f vs => PySem.call f vs) :=
  L2.walk_of (n := 63) (k := 11) (x := "script") (CX := fun _ => CX0) (sp := fun w => spLaw (K w.params)) hn (by decide) hdf ⟨rfl, by decide, by decide⟩ hY F (fun _ _ a ns hl _ hS => ⟨a, ns, rfl, hS, hl, fun _ => rfl⟩) fun _ _ _ _ _ z => z
end Prf
namespace PySem.W.Fast
def tw1899348527527964816 := ()
def tw10116556794742778025 := ()
def tw4532165987226031487 := ()
def tw220837650834576161 := ()
def tw1059459891782584127 := ()
def tw8908887433660582186 := ()
def tw11858435438205946340 := ()
def tw18393112859153172934 := ()
def tw6343124268841738556 := ()
def tw10475339123863690295 := ()
def tw10111982332445805852 := ()
def tw11774214536726600416 := ()
def tw13301812980413310255 := ()
def tw15842494636539919347 := ()
def tw12915847781847793542 := ()
def tw11708043817305250363 := ()
def tw1365500577729918655 := ()
def tw7336782954028616251 := ()
def tw15009735814694344198 := ()
def tw6192153828647602927 := ()
def tw5654925373146756744 := ()
def tw8682860434786760622 := ()
def tw3047738471202348009 := ()
def tw6572060864059257980 := ()
def tw4227956898481556095 := ()
def tw1327626184546511123 := ()
def tw17186556909276067904 := ()
def tw16633673289355652123 := ()
def tw4950361868034823182 := ()
def tw3194212636216029168 := ()
def tw760363557863250786 := ()
def tw3024944555120234137 := ()
def tw7962385390468960329 := ()
def tw1885276279370490800 := ()
def tw6420985826117578817 := ()
def tw11932010060776688580 := ()
def tw12603202055459135380 := ()
def tw8149295404443524965 := ()
def tw15475642079281357958 := ()
def tw1842768830816258510 := ()
def tw9400512494659128380 := ()
def tw7250017622979169072 := ()
def tw12050083061996507553 := ()
def tw5797700669730539105 := ()
def tw12035739842744325873 := ()
def tw10508762546842443065 := ()
def tw17500658433753180113 := ()
def tw7995098271651818714 := ()
def tw7991572253539616496 := ()
def tw7788566983274163466 := ()
def tw5890611229101308135 := ()
def tw13326140916685788739 := ()
def tw6986843032856982270 := ()
def tw18046657511243675768 := ()
def tw1193740376094789835 := ()
def tw9788027626348949760 := ()
def tw1340308839744497754 := ()
def tw916297289560190747 := ()
def tw9146306159524800062 := ()
def tw8066559257212845342 := ()
def tw16619898578904134398 := ()
def tw11524924238687743351 := ()
def tw16708938829875807435 := ()
def tw70558069214725595 := ()
def tw6092222506099231967 := ()
def tw11164041146108035224 := ()
def tw3962018634980765082 := ()
def tw14119971038055736355 := ()
def tw14879195043475153125 := ()
def tw14255573286476464844 := ()
def tw7763374917527865657 := ()
def tw1218417437044841626 := ()
def tw813695121620338428 := ()
def tw940209082430559783 := ()
def tw11056806884224639225 := ()
def tw3141277737747623158 := ()
def tw11084273779844767011 := ()
def tw8584728529051508522 := ()
def tw12337329051711437718 := ()
def tw13244519124315682688 := ()
def tw8512885860968545794 := ()
def tw1653994646619317563 := ()
def tw9512952130071119181 := ()
def tw8232982680916874742 := ()
def tw9566122186320846725 := ()
def tw8559266811300702145 := ()
def tw13522821553349094429 := ()
def tw1898192246440964537 := ()
def tw7608411742808387032 := ()
def tw12683527399383299713 := ()
def tw7350554722708243952 := ()
def tw14426594168467176128 := ()
def tw10540410271953734009 := ()
def tw11981528170449263015 := ()
def tw9847763113137433082 := ()
def tw11130214896199935510 := ()
def tw16831050562611759654 := ()
def tw8129065679893118575 := ()
def tw7970580422316480644 := ()
def tw4935204867207750075 := ()
def tw11049146559752563147 := ()
def tw11718686975870820998 := ()
def tw13560900832840778879 := ()
def tw9667270548364556036 := ()
def tw16115803281624352056 := ()
def tw1545974609592350748 := ()
def tw13996276006972854831 := ()
def tw5900540163065139999 := ()
def tw8178174566551111988 := ()
def tw16379583193307981770 := ()
def tw17235604124883535081 := ()
def tw9902326045922615973 := ()
def tw12426355058918838661 := ()
def tw13452058065104841146 := ()
def tw10332168993782013220 := ()
def tw2174185992222240936 := ()
def tw3185972205579445655 := ()
def tw13486675975100812012 := ()
def tw10436761622504996848 := ()
def tw1135856046964414460 := ()
def tw554582823922188514 := ()
def tw12363459456761581653 := ()
def tw16492069426662950239 := ()
def tw13234811517565071743 := ()
def tw6951220736250299418 := ()
def tw9204478993886283873 := ()
def tw4665206775525598112 := ()
def tw15186954101086599547 := ()
def tw5711347528069075746 := ()
def tw11719487371933779527 := ()
def tw2046632504224387347 := ()
def tw12244390391235307784 := ()
def tw12021333970663251102 := ()
def tw15846943044527219941 := ()
def tw5221129713594597913 := ()
def tw3967181418558896199 := ()
def tw3012509729909851748 := ()
def tw15946195103394447091 := ()
def tw6639385211392530265 := ()
def tw8345331099335921607 := ()
def tw16960599997370690717 := ()
def tw9496185577108876578 := ()
def tw17301556033381117799 := ()
def tw15005599252905109087 := ()
def tw9253398790459705561 := ()
def tw6147713429252816250 := ()
def tw3282694864570897149 := ()
def tw11000123710474440592 := ()
def tw584041670418150816 := ()
def tw4136404329689148858 := ()
def tw13345918587086504293 := ()
def tw4229521233096958805 := ()
def tw14267330266868401339 := ()
def tw12120382689489258848 := ()
def tw18130953535196286259 := ()
def tw110148075243050117 := ()
def tw11761184573629285092 := ()
def tw9380432337179627339 := ()
def tw12650219694169987478 := ()
def tw8305823372005613864 := ()
def tw7454539708476799821 := ()
def tw3355663025451565519 := ()
def tw16010346029427682629 := ()
def tw3650550809197934718 := ()
def tw14206706491430387107 := ()
def tw4382307510040016700 := ()
def tw15237171990586003301 := ()
def tw14460656318870922893 := ()
def tw18098728682077808653 := ()
def tw3320513746011145140 := ()
def tw12354764156384049107 := ()
def tw13684894205355455376 := ()
def tw534517463123063096 := ()
def tw3527800187389031912 := ()
def tw3083052156312531958 := ()
def tw18201900448852058924 := ()
def tw6705009323075283087 := ()
def tw6577422719496026023 := ()
def tw3641720010372874148 := ()
def tw7919368254017890553 := ()
def tw9098168298961339387 := ()
def tw6373509378812728875 := ()
def tw8573499259479342142 := ()
def tw11867812281755991336 := ()
def tw7009082086535360050 := ()
def tw11938267654425927985 := ()
def tw3604883508524253049 := ()
def tw1889281921862765068 := ()
def tw1137252409256590840 := ()
def tw5359698594112166511 := ()
def tw8379009138449737691 := ()
def tw10646713772667828962 := ()
def tw5782651930304248631 := ()
def tw7497307012162511814 := ()
def tw8696958279545113668 := ()
def tw9254988972279407707 := ()
def tw6843880005213785888 := ()
def tw5940788909200109832 := ()
def tw13256469918026234047 := ()
def tw7597227741532937128 := ()
def tw16893969523497126938 := ()
def tw3161396009111976504 := ()
def tw18220568305538570442 := ()
def tw9743530951468899295 := ()
def tw12894944756325207884 := ()
def tw11668453994023475222 := ()
def tw6235260439383775154 := ()
def tw12689449414389372059 := ()
def tw3872056292792476632 := ()
def tw94943145542659458 := ()
def tw8352476316625056666 := ()
def tw1299116803683279206 := ()
def tw11782020214095290483 := ()
def tw6555656533425686607 := ()
def tw2158407128260393582 := ()
def tw15276724467697238219 := ()
def tw11604335426673404313 := ()
def tw15051682047188395620 := ()
def tw15445331726965637232 := ()
def tw16358266324239755389 := ()
def tw5251330611855884520 := ()
def tw14984088196331823909 := ()
def tw1046901548231171417 := ()
def tw13782282562065835480 := ()
def tw199341085843742554 := ()
def tw7012219187939096389 := ()
def tw2655333720355388077 := ()
def tw1820979196006275601 := ()
def tw13393095935437919950 := ()
def tw5669845195050905377 := ()
def tw716508966175636510 := ()
def tw14043532497970851000 := ()
def tw12911391970275206700 := ()
def tw16357871287168109338 := ()
def tw3213566979863131135 := ()
def tw6263922076305730495 := ()
def tw2701176468008186753 := ()
def tw2094671504906101838 := ()
def tw8340694474031193691 := ()
def tw1649762991112470408 := ()
def tw15737400531402181746 := ()
def tw18427705862338690464 := ()
def tw15718618057360868580 := ()
def tw6918182403896067505 := ()
def tw17545106237048998274 := ()
def tw4834950317893064365 := ()
def tw720715762612893860 := ()
def tw8098905627350991613 := ()
def tw2703265859545346582 := ()
def tw10987662398409923347 := ()
def tw4006496838119070216 := ()
def tw15343653393460767049 := ()
def tw1142905772769975748 := ()
def tw15741765000119164274 := ()
def tw10932701666982715302 := ()
def tw11579373308477375658 := ()
def tw15923218472526355372 := ()
def tw15345364002487956472 := ()
def tw2541844190577695375 := ()
def tw314309290443501877 := ()
def tw15944140948497497401 := ()
def tw15177916842683359807 := ()
def tw15312408576615702529 := ()
def tw12403186903053935337 := ()
def tw5356293918274650128 := ()
def tw15730248767917930455 := ()
def tw6490818846121757266 := ()
def tw1519130819429150097 := ()
def tw2012830606598634388 := ()
def tw2692737675241501929 := ()
def tw13547171982257148922 := ()
def tw4354695685892414735 := ()
def tw1067654472940502092 := ()
def tw4847434775296998208 := ()
def tw12625402832139919008 := ()
def tw6597731752165400963 := ()
def tw6812971544527548415 := ()
def tw10618375299673787230 := ()
def tw7284191622956877145 := ()
def tw4908101951167311580 := ()
def tw491894393386208295 := ()
def tw13283424048811430463 := ()
def tw14334518474149438585 := ()
def tw13308463717598534080 := ()
def tw16260290674708088801 := ()
def tw4587454232522725219 := ()
def tw11405103809876511507 := ()
def tw11117560944286360309 := ()
def tw6618519360175458641 := ()
def tw3519314950083306888 := ()
def tw17792334148532309086 := ()
def tw8696458100585673989 := ()
def tw352520548155537151 := ()
def tw157462721597377045 := ()
def tw6179551120432202462 := ()
def tw180155995014822932 := ()
def tw13735933917946967726 := ()
def tw7781807251085314769 := ()
def tw9349194094611612618 := ()
def tw9786351687793295674 := ()
def tw18058749149620220312 := ()
def tw3548330896137777739 := ()
def tw1275963356321477437 := ()
def tw16192681954230768554 := ()
def tw8083261671615263956 := ()
def tw12065709249434462633 := ()
def tw12183609334875578200 := ()
def tw15001605098215462562 := ()
def tw2621593952507858070 := ()
def tw3885585081966038089 := ()
def tw4393450410861143653 := ()
def tw11978082380304699298 := ()
def tw12481329857108164763 := ()
def tw8341419326016180290 := ()
def tw4316317474907533305 := ()
def tw11649468485372346796 := ()
def tw2236113383392799480 := ()
def tw4320041411668313151 := ()
def tw9197875715730066521 := ()
def tw2141601981492887698 := ()
def tw16230938475190963460 := ()
def tw11600369814307504948 := ()
def tw136861429081079482 := ()
def tw2259625350894554758 := ()
def tw10266190897298216102 := ()
def tw16735855581644558565 := ()
def tw9564446045155674941 := ()
def tw12690036913305432884 := ()
def tw1558580823485426580 := ()
def tw7584244491780716589 := ()
def tw8952176559200837136 := ()
def tw3262124404543803252 := ()
def tw8788448503193241556 := ()
def tw10187186348814051892 := ()
def tw14826982048051448865 := ()
def tw8945630407590347349 := ()
def tw5045460764631335749 := ()
def tw6193511023183947495 := ()
def tw11427401752210192567 := ()
def tw10833082455653351315 := ()
def tw11791745228828611450 := ()
def tw14286437343704345939 := ()
def tw5591561104944612970 := ()
def tw3999515140454154225 := ()
def tw10241097345929445231 := ()
def tw11930724713279354060 := ()
def tw1560338933101989565 := ()
def tw9865555846523781026 := ()
def tw10060336919109046607 := ()
def tw12244501197137323328 := ()
def tw2477738989739487773 := ()
def tw11530099440559614454 := ()
def tw5103715420684456931 := ()
def tw10930012238545840897 := ()
def tw13548758010423408767 := ()
def tw8321677262952011073 := ()
def tw17633617373812711165 := ()
def tw11001033572395466600 := ()
def tw3225866863164788816 := ()
def tw9433278890236775290 := ()
def tw5078541996164136698 := ()
def tw12787637514889181064 := ()
def tw9983769592675137870 := ()
def tw9677679652156315030 := ()
def tw5120276262289529417 := ()
def tw81039745387815136 := ()
def tw10378609182092668569 := ()
def tw2124173502634448689 := ()
def tw1830219763019906259 := ()
def tw15047938979290194381 := ()
def tw5548002978035642007 := ()
def tw2978564674301059500 := ()
def tw777406932664060780 := ()
def tw779482282347663812 := ()
def tw13333736645463430430 := ()
def tw7728362547844922865 := ()
def tw7366456149881542225 := ()
def tw14200087701531605068 := ()
def tw3698602464325938930 := ()
def tw5978165642485459833 := ()
def tw545517625791169767 := ()
def tw2151232857245021087 := ()
def tw8627661639405617598 := ()
def tw15116327127445278868 := ()
def tw9806886677852701201 := ()
def tw3952095693742090265 := ()
def tw9423532620697760347 := ()
def tw5399720381816498853 := ()
def tw4975801179905394490 := ()
def tw1062808495748699819 := ()
def tw2616886563781168410 := ()
def tw15491846754967317461 := ()
def tw10097584739538846643 := ()
def tw1198856974300952545 := ()
def tw7314352913150224484 := ()
def tw3637640939204407570 := ()
def tw10173901156815391320 := ()
def tw787465200903723252 := ()
def tw7394046062871146744 := ()
def tw13309901299706428596 := ()
def tw16025071553207996566 := ()
def tw15015227468691850304 := ()
def tw5747822935844666755 := ()
end PySem.W.Fast
open PySem PySem.W PyProof.Rows
set_option maxRecDepth 100000 in
set_option maxHeartbeats 0 in
theorem PySem.Challenge.cw_fewnotes_k18_webs_of_runs_holds : PySem.Challenge.rw_fewnotes_k18_webs_of_runs.Holds := by
  w_on; o_law; k_head; (case hw => w_witness2)
  k_fill
  refine Prf.walk (l := PySem.Challenge.rw_fewnotes_k18_webs_of_runs) rfl rfl (fun w h Y => PySem.W.kIn_of Y) ?F
  case F =>
    intro w mg fa h KX G hmg
    replace hmg : mg (Str.ofString "law") = some (.ref fa) := hmg
    refine' Prf.all_mk KX G hmg ?a0 ?l0 ?c0 ?k0 ?a1 ?l1 ?c1 ?k1 ?a2 ?l2 ?c2 ?k2 ?n2 ?a3 ?l3 ?c3 ?k3 ?a4 ?l4 ?c4 ?k4 ?n4 ?a5 ?l5 ?c5 ?k5 ?n5 ?a6 ?l6 ?c6 ?k6 ?n6 ?a7 ?l7 ?c7 ?k7 ?n7 ?a8 ?l8 ?c8 ?k8 ?n8 ?a9 ?l9 ?c9 ?k9 ?a10 ?l10 ?c10 ?k10 ?n10 ?a11 ?l11 ?c11 ?k11 ?n11 ?a12 ?l12 ?c12 ?k12 ?n12 ?a13 ?l13 ?c13 ?k13 ?n13 ?d13 ?a14 ?l14 ?c14 ?k14 ?n14 ?a15 ?l15 ?c15 ?k15 ?n15 ?a16 ?l16 ?c16 ?k16 ?d16 ?a17 ?l17 ?c17 ?k17 ?d17 ?a18 ?l18 ?c18 ?k18 ?a19 ?l19 ?c19 ?k19 ?a20 ?l20 ?c20 ?k20 ?a21 ?l21 ?c21 ?k21 ?a22 ?l22 ?c22 ?k22 ?a23 ?l23 ?c23 ?k23 ?a24 ?l24 ?c24 ?k24 ?a25 ?l25 ?c25 ?k25 ?a26 ?l26 ?c26 ?k26 ?a27 ?l27 ?c27 ?k27 ?a28 ?l28 ?c28 ?k28 ?a29 ?l29 ?c29 ?k29 ?a30 ?l30 ?c30 ?k30 ?za_Hand ?zpg_Hand ?zhd_Hand ?zpo_Hand ?zsa_Hand ?zmk_Hand ?zkp_Hand ?zn_Hand_rows ?zn_Hand_at ?zn_Hand_in_boxes ?zn_Hand_sayings ?zn_Hand_state ?za_Works ?zpg_Works ?zhd_Works ?zpo_Works ?zsa_Works ?zmk_Works ?zkp_Works ?zn_Works_program ?zn_Works_numbers ?zn_Works_hands ?zn_Works_turns ?ycg ?yct ?yca_Works ?ymo_Works ?xa_NoNumber ?xcl_NoNumber ?xty_NoNumber ?xbs_NoNumber ?xa_NoHand ?xcl_NoHand ?xty_NoHand ?xbs_NoHand ?xa_Over ?xcl_Over ?xty_Over ?xbs_Over ?xne_NoHand_NoNumber ?xsb_NoHand_NoNumber ?xne_Over_NoNumber ?xsb_Over_NoNumber ?xne_Over_NoHand ?xsb_Over_NoHand ?xcg ?xct ?xga_NoNumber ?xgk_NoNumber ?xmB_NoNumber ?xca_NoNumber ?xmo_NoNumber ?xve_NoNumber ?xex_NoNumber ?xga_NoHand ?xgk_NoHand ?xmB_NoHand ?xca_NoHand ?xmo_NoHand ?xve_NoHand ?xex_NoHand ?xga_Over ?xgk_Over ?xmB_Over ?xca_Over ?xmo_Over ?xve_Over ?xex_Over ?g_BOXES ?g_ROUND ?g_MOST_UNTOUCHING ?z_abs ?z_all ?z_any ?z_bool ?z_enumerate ?z_int ?z_isinstance ?z_len ?z_list ?z_max ?z_min ?z_range ?z_sorted ?z_tuple ?z_zip
    (case za_Hand => k_is)
    (case zpg_Hand => k_is)
    (case zhd_Hand => k_is)
    (case zpo_Hand => k_is)
    (case zsa_Hand => k_is)
    (case zmk_Hand => k_is)
    (case zkp_Hand => k_is)
    (case zn_Hand_rows => k_is)
    (case zn_Hand_at => k_is)
    (case zn_Hand_in_boxes => k_is)
    (case zn_Hand_sayings => k_is)
    (case zn_Hand_state => k_is)
    (case za_Works => k_is)
    (case zpg_Works => k_is)
    (case zhd_Works => k_is)
    (case zpo_Works => k_is)
    (case zsa_Works => k_is)
    (case zmk_Works => k_is)
    (case zkp_Works => k_is)
    (case zn_Works_program => k_is)
    (case zn_Works_numbers => k_is)
    (case zn_Works_hands => k_is)
    (case zn_Works_turns => k_is)
    (case ycg => k_is)
    (case yct => k_is)
    (case yca_Works => k_is)
    (case ymo_Works => k_is)
    (case xa_NoNumber => k_is)
    (case xcl_NoNumber => rfl)
    (case xty_NoNumber => k_is)
    (case xbs_NoNumber => k_is)
    (case xa_NoHand => k_is)
    (case xcl_NoHand => rfl)
    (case xty_NoHand => k_is)
    (case xbs_NoHand => k_is)
    (case xa_Over => k_is)
    (case xcl_Over => rfl)
    (case xty_Over => k_is)
    (case xbs_Over => k_is)
    (case xne_NoHand_NoNumber => rfl)
    (case xsb_NoHand_NoNumber => k_is)
    (case xne_Over_NoNumber => rfl)
    (case xsb_Over_NoNumber => k_is)
    (case xne_Over_NoHand => rfl)
    (case xsb_Over_NoHand => k_is)
    (case xcg => k_is)
    (case xct => k_is)
    (case xga_NoNumber => k_is)
    (case xgk_NoNumber => k_is)
    (case xmB_NoNumber => k_is)
    (case xca_NoNumber => k_is)
    (case xmo_NoNumber => k_is)
    (case xve_NoNumber => k_is)
    (case xex_NoNumber => k_exc)
    (case xga_NoHand => k_is)
    (case xgk_NoHand => k_is)
    (case xmB_NoHand => k_is)
    (case xca_NoHand => k_is)
    (case xmo_NoHand => k_is)
    (case xve_NoHand => k_is)
    (case xex_NoHand => k_exc)
    (case xga_Over => k_is)
    (case xgk_Over => k_is)
    (case xmB_Over => k_is)
    (case xca_Over => k_is)
    (case xmo_Over => k_is)
    (case xve_Over => k_is)
    (case xex_Over => k_exc)
    (case g_BOXES => k_is)
    (case g_ROUND => k_is)
    (case g_MOST_UNTOUCHING => k_is)
    (case a0 => k_is)
    (case l0 => k_is)
    (case c0 => k_is)
    (case k0 => k_is)
    (case a1 => k_is)
    (case l1 => k_is)
    (case c1 => k_is)
    (case k1 => k_is)
    (case a2 => k_is)
    (case l2 => k_is)
    (case c2 => k_is)
    (case k2 => k_is)
    (case n2 => k_is)
    (case a3 => k_is)
    (case l3 => k_is)
    (case c3 => k_is)
    (case k3 => k_is)
    (case a4 => k_is)
    (case l4 => k_is)
    (case c4 => k_is)
    (case k4 => k_is)
    (case n4 => k_is)
    (case a5 => k_is)
    (case l5 => k_is)
    (case c5 => k_is)
    (case k5 => k_is)
    (case n5 => k_is)
    (case a6 => k_is)
    (case l6 => k_is)
    (case c6 => k_is)
    (case k6 => k_is)
    (case n6 => k_is)
    (case a7 => k_is)
    (case l7 => k_is)
    (case c7 => k_is)
    (case k7 => k_is)
    (case n7 => k_is)
    (case a8 => k_is)
    (case l8 => k_is)
    (case c8 => k_is)
    (case k8 => k_is)
    (case n8 => k_is)
    (case a9 => k_is)
    (case l9 => k_is)
    (case c9 => k_is)
    (case k9 => k_is)
    (case a10 => k_is)
    (case l10 => k_is)
    (case c10 => k_is)
    (case k10 => k_is)
    (case n10 => k_is)
    (case a11 => k_is)
    (case l11 => k_is)
    (case c11 => k_is)
    (case k11 => k_is)
    (case n11 => k_is)
    (case a12 => k_is)
    (case l12 => k_is)
    (case c12 => k_is)
    (case k12 => k_is)
    (case n12 => k_is)
    (case a13 => k_is)
    (case l13 => k_is)
    (case c13 => k_is)
    (case k13 => k_is)
    (case n13 => k_is)
    (case d13 => k_is)
    (case a14 => k_is)
    (case l14 => k_is)
    (case c14 => k_is)
    (case k14 => k_is)
    (case n14 => k_is)
    (case a15 => k_is)
    (case l15 => k_is)
    (case c15 => k_is)
    (case k15 => k_is)
    (case n15 => k_is)
    (case a16 => k_is)
    (case l16 => k_is)
    (case c16 => k_is)
    (case k16 => k_is)
    (case d16 => k_is)
    (case a17 => k_is)
    (case l17 => k_is)
    (case c17 => k_is)
    (case k17 => k_is)
    (case d17 => k_is)
    (case a18 => k_is)
    (case l18 => k_is)
    (case c18 => k_is)
    (case k18 => k_is)
    (case a19 => k_is)
    (case l19 => k_is)
    (case c19 => k_is)
    (case k19 => k_is)
    (case a20 => k_is)
    (case l20 => k_is)
    (case c20 => k_is)
    (case k20 => k_is)
    (case a21 => k_is)
    (case l21 => k_is)
    (case c21 => k_is)
    (case k21 => k_is)
    (case a22 => k_is)
    (case l22 => k_is)
    (case c22 => k_is)
    (case k22 => k_is)
    (case a23 => k_is)
    (case l23 => k_is)
    (case c23 => k_is)
    (case k23 => k_is)
    (case a24 => k_is)
    (case l24 => k_is)
    (case c24 => k_is)
    (case k24 => k_is)
    (case a25 => k_is)
    (case l25 => k_is)
    (case c25 => k_is)
    (case k25 => k_is)
    (case a26 => k_is)
    (case l26 => k_is)
    (case c26 => k_is)
    (case k26 => k_is)
    (case a27 => k_is)
    (case l27 => k_is)
    (case c27 => k_is)
    (case k27 => k_is)
    (case a28 => k_is)
    (case l28 => k_is)
    (case c28 => k_is)
    (case k28 => k_is)
    (case a29 => k_is)
    (case l29 => k_is)
    (case c29 => k_is)
    (case k29 => k_is)
    (case a30 => k_is)
    (case l30 => k_is)
    (case c30 => k_is)
    (case k30 => k_is)
    (case z_abs => k_is)
    (case z_all => k_is)
    (case z_any => k_is)
    (case z_bool => k_is)
    (case z_enumerate => k_is)
    (case z_int => k_is)
    (case z_isinstance => k_is)
    (case z_len => k_is)
    (case z_list => k_is)
    (case z_max => k_is)
    (case z_min => k_is)
    (case z_range => k_is)
    (case z_sorted => k_is)
    (case z_tuple => k_is)
    (case z_zip => k_is)
#print axioms PySem.Challenge.cw_fewnotes_k18_webs_of_runs_holds
