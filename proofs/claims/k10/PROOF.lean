import PyProof.Rows.All
import Wide.All
import OpenK.AllK
import Wide.FinOn
import Lean
import PyProof.EqAt
import PyProof.EqKinds
import PyProof.TupleCall
import PyProof.NeKinds
import KE.KFind
import PyProof.ListRange
import PyProof.Rows.SetFrom
import PyProof.SetRoads
import PySem.Challenge.RW_riverloops_k10_laid_beneath
set_option Elab.async false
set_option linter.all false
set_option maxRecDepth 100000
/-! THE HAND LAYER, for ints, bools, texts, own classes, LISTS and tuples (index, slices, in, append, pop ..), calls, loops. Paste it whole ahead of your own text; what your proof does not reach may be deleted. -/
namespace L2
open PySem PySem.Spec PyProof.Rows

/-- a key: an int or a str -/
abbrev Key := Sum Int Str
def keyIs : Key → Value → Bool
  | .inl k, v => Value.isInt k v
  | .inr x, v => Value.isStrOf x v
def keyH (w : World) : Key → Int
  | .inl k => hashInt k
  | .inr x => hashStr w x
theorem keyIs_shape : ∀ {k : Key} {v : Value}, keyIs k v = true → (∃ i t, k = Sum.inl i ∧ v = Value.int i t) ∨ (∃ x t, k = Sum.inr x ∧ v = Value.str x t)
  | .inl i, v, h => by
    obtain ⟨t, e⟩ := Value.isInt_shape (k := i) (v := v) h
    exact .inl ⟨i, t, rfl, e⟩
  | .inr x, v, h => by
    obtain ⟨t, e⟩ := Value.isStrOf_shape (x := x) (v := v) h
    exact .inr ⟨x, t, rfl, e⟩
theorem keyIs_int (i : Int) (t : Tok) : keyIs (.inl i) (.int i t) = true := by simp [keyIs, Value.isInt]
theorem keyIs_str (x : Str) (t : Tok) : keyIs (.inr x) (.str x t) = true := by simp [keyIs, Value.isStrOf]
theorem key_ll (a b : Int) : decide ((Sum.inl a : Key) = Sum.inl b) = (a == b) := by
  by_cases e : a = b
  · subst e; simp
  · have h : ¬ (Sum.inl a : Key) = Sum.inl b := fun q => e (Sum.inl.inj q)
    rw [decide_eq_false h]
    exact (beq_eq_false_iff_ne.mpr e).symm
theorem key_rr (a b : Str) : decide ((Sum.inr a : Key) = Sum.inr b) = decide (a = b) := by
  by_cases e : a = b
  · subst e; simp
  · have h : ¬ (Sum.inr a : Key) = Sum.inr b := fun q => e (Sum.inr.inj q)
    rw [decide_eq_false h, decide_eq_false e]
theorem key_lr (a : Int) (b : Str) : decide ((Sum.inl a : Key) = Sum.inr b) = false := decide_eq_false (fun q => nomatch q)
theorem key_rl (a : Str) (b : Int) : decide ((Sum.inr a : Key) = Sum.inl b) = false := decide_eq_false (fun q => nomatch q)

def mixKind (prog : Program) (w : World) : PySem.KeyKind prog w Key where
  is := keyIs
  hash := keyH w
  inj := fun v a b ha hb => by
    rcases keyIs_shape ha with ⟨i, t, rfl, rfl⟩ | ⟨x, t, rfl, rfl⟩
    · rcases keyIs_shape hb with ⟨j, u, rfl, e⟩ | ⟨y, u, rfl, e⟩
      · injection e with e1 _; rw [e1]
      · exact nomatch e
    · rcases keyIs_shape hb with ⟨j, u, rfl, e⟩ | ⟨y, u, rfl, e⟩
      · exact nomatch e
      · injection e with e1 _; rw [e1]
  byValue := fun k v h => by
    rcases keyIs_shape h with ⟨i, t, rfl, rfl⟩ | ⟨x, t, rfl, rfl⟩ <;> rfl
  pyHash := fun hv h => by
    rcases keyIs_shape hv with ⟨i, t, rfl, rfl⟩ | ⟨x, t, rfl, rfl⟩
    · exact wpAny_pyHash_int h
    · exact wpAny_pyHash_str h
  eqBool := fun hu hv h => by
    rcases keyIs_shape hu with ⟨i, t, rfl, rfl⟩ | ⟨x, t, rfl, rfl⟩
    · rcases keyIs_shape hv with ⟨j, u, rfl, rfl⟩ | ⟨y, u, rfl, rfl⟩
      · rw [key_ll] at h; exact wpAny_eqBool_int h
      · rw [key_lr] at h; exact SeqAt.EqAt.int_str i t y u _ _ _ _ h
    · rcases keyIs_shape hv with ⟨j, u, rfl, rfl⟩ | ⟨y, u, rfl, rfl⟩
      · rw [key_rl] at h; exact SeqAt.EqAt.str_int x t j u _ _ _ _ h
      · rw [key_rr] at h; exact wpAny_eqBool_str h
  «strs» := fun k x t v h => by
    rcases keyIs_shape h with ⟨i, u, rfl, e⟩ | ⟨y, u, rfl, e⟩
    · exact nomatch e
    · injection e with e1 _
      subst e1
      cases v <;> rfl

theorem mixKind_int (prog : Program) (w : World) (i : Int) (t : Tok) : (mixKind prog w).is (.inl i) (.int i t) = true := keyIs_int i t
theorem mixKind_str (prog : Program) (w : World) (x : Str) (t : Tok) : (mixKind prog w).is (.inr x) (.str x t) = true := keyIs_str x t
end L2

namespace L2
open PySem PySem.Spec PyProof.Rows

/-- a value, without the heap -/
inductive V where
  | non | bl (b : Bool) | int (i : Int) | str (x : Str) | byt (b : Array UInt8) | flt (b : UInt64) | ref (a : Addr) | ty (n : String)
  deriving DecidableEq

def RelV : V → Value → Prop
  | .non, u => u = Value.none
  | .bl b, u => u = Value.bool b
  | .int i, u => ∃ t, u = Value.int i t
  | .str x, u => ∃ t, u = Value.str x t
  | .byt b, u => ∃ t, u = Value.bytes b t
  | .flt b, u => ∃ t, u = Value.float b t
  | .ref a, u => u = Value.ref a
  | .ty n, u => u = Value.type n

abbrev Vals : List V → List Value → Prop := Paired RelV
theorem Vals.length {xs : List V} {us : List Value} (r : Vals xs us) : xs.length = us.length := Paired.length r
theorem Vals.get : ∀ {xs : List V} {us : List Value} {i : Nat} {x : V}, Vals xs us → xs[i]? = some x → ∃ u, us[i]? = some u ∧ RelV x u
  | _, _, _, _, .nil, e => by simp at e
  | _, _, 0, _, .cons r _, e => by simp at e; subst e; exact ⟨_, rfl, r⟩
  | _, _, i + 1, x, .cons _ t, e => by
    obtain ⟨u, h1, h2⟩ := Vals.get (i := i) (x := x) t (by simpa using e)
    exact ⟨u, by simpa using h1, h2⟩
theorem Vals.set {x : V} {u : Value} (r : RelV x u) : ∀ {xs : List V} {us : List Value} (i : Nat), Vals xs us → Vals (xs.set i x) (us.set i u)
  | _, _, _, .nil => .nil
  | _, _, 0, .cons _ t => .cons r t
  | _, _, i + 1, .cons q t => .cons q (Vals.set r i t)
theorem Vals.append : ∀ {xs ys : List V} {us ws : List Value}, Vals xs us → Vals ys ws → Vals (xs ++ ys) (us ++ ws)
  | _, _, _, _, .nil, s => s
  | _, _, _, _, .cons r t, s => .cons r (Vals.append t s)

def RelO : Option V → Option Value → Prop
  | some v, some u => RelV v u
  | none, none => True
  | _, _ => False
def KV {κ : Type} : List (κ × V) → List (κ × Value) → Prop := Paired fun (p : κ × V) (q : κ × Value) => p.1 = q.1 ∧ RelV p.2 q.2

/-- a key of a dict (00_mix): an int or a text -/
def kV : Key → V
  | .inl i => .int i
  | .inr x => .str x

/-- what stands at a tracked address -/
inductive HO where
  /-- a list -/
  | lst (xs : List V)
  /-- a tuple (never changes) -/
  | tup (xs : List V)
  /-- a dict whose keys are ints and texts; one whose keys are tuples of ints and texts (the empty one is both) -/
  | dK (kvs : List (Key × V)) | dT (kvs : List (List Key × V))
  /-- a set of ints: its members, its size -/
  | set (S : Int → Bool) (n : Nat)
  /-- an instance of the class at C, its dict at dx, its attributes -/
  | ins (C dx : Addr) (fs : List (Str × V))
  /-- the dict of the instance at x -/
  | own (x : Addr)
  /-- the dict of an exception -/
  | xd (fs : List (Str × V))
  /-- a bound method, f of x -/
  | met (f x : Addr)
  /-- a range object lo, lo + 1, .. below hi -/
  | rng (lo hi : Int)
  /-- a thing that is known to the object (the script; a dict while a loop walks it): read, never written while it is so -/
  | frz (o : Obj) (u : HO)
  /-- a code object's table -/
  | tbl (ps : Array Value)
  /-- any other thing, by what is true of its one object (a def of one's own: SetO a S n := HO.ext fun h => ..) -/
  | ext (φ : Heap → Prop)

abbrev Hp := Addr → Option HO
def upd (H : Hp) (a : Addr) (o : HO) : Hp := fun b => if b = a then some o else H b
theorem upd_same {H : Hp} {a : Addr} {o : HO} : upd H a o a = some o := by unfold upd; rw [if_pos rfl]
theorem upd_ne {H : Hp} {a b : Addr} {o : HO} (h : b ≠ a) : upd H a o b = H b := by unfold upd; rw [if_neg h]
/-- two objects of different content stand apart -/
theorem ne_of {H : Hp} {a b : Addr} {o u : HO} (h : H a = some o) (h' : H b = some u) (d : o ≠ u) : a ≠ b := by
  intro e; subst e; rw [h] at h'; exact d (Option.some.inj h')
theorem ne_of_none {H : Hp} {a b : Addr} {o : HO} (h : H a = some o) (h' : H b = none) : a ≠ b := by
  intro e; subst e; rw [h] at h'; cases h'

section
variable (P : Program) (w : World)
def ObjOk (H : Hp) (h : Heap) (a : Addr) : HO → Prop
  | .lst xs => xs.length ≤ sizeLine ∧ ∃ (its : List Value) (n : Nat), Vals xs its ∧ h.get? a = some { cls := .type "list", data := .seq its.toArray n }
  | .tup xs => xs.length ≤ sizeLine ∧ ∃ its : List Value, Vals xs its ∧ IsTup h a its.toArray
  | .dK kvs => kvs.length ≤ sizeLine ∧ (a == sysModules) = false ∧ ∃ vs, KV kvs vs ∧ h.DictOf (mixKind P w) a vs
  | .dT kvs => kvs.length ≤ sizeLine ∧ (a == sysModules) = false ∧ ∃ xs : List (List Key × Addr × Value),
      Paired (fun (p : List Key × V) (q : List Key × Addr × Value) => p.1 = q.1 ∧ H q.2.1 = some (.tup (p.1.map kV)) ∧ RelV p.2 q.2.2) kvs xs ∧
      ∃ o es ep, h.get? a = some o ∧ o.ExactDict ∧ o.data = .dict es ep ∧ es.toList = xs.map (entryOfKey (tupleKind (mixKind P w))) ∧ (xs.map (·.1)).Nodup
  | .set S n => h.SetOf (intKind P w) a S n
  | .ins C dx fs => H dx = some (.own a) ∧ fs.length ≤ 1000 ∧ dx ≠ a ∧ h.get? a = some (PySem.W.instObj C dx) ∧
      ∃ mA, h.Ns1 dx mA ∧ (∀ f, RelO (fs.lookup f) (mA f)) ∧ PySem.Within mA (fs.map (·.1))
  | .own _ => ∃ o, h.get? a = some o
  | .xd fs => ∃ mA, h.Ns1 a mA ∧ ∀ f, RelO (fs.lookup f) (mA f)
  | .rng lo hi => ∃ t u v, h.get? a = some { cls := .type "range", data := .fields #[.int lo t, .int hi u, .int 1 v] }
  | .frz o u => h.get? a = some o ∧ ObjOk H h a u
  | .tbl ps => h.get? a = some { cls := .none, data := .fields ps }
  | .met f x => h.get? a = some (PySem.W.methodObj (.ref f) (.ref x))
  | .ext φ => φ h ∧ (∃ o, h.get? a = some o) ∧ ∀ h1 h2 : Heap, φ h1 → (∀ o, h1.get? a = some o → h2.get? a = some o) → φ h2
/-- the abstract heap is held -/
def HOk (H : Hp) (h : Heap) : Prop := ∀ a o, H a = some o → ObjOk P w H h a o
end

section
variable {P : Program} {w : World} {H H' : Hp} {h h' : Heap} {a : Addr} {o : HO}
theorem ObjOk.lt (x : ObjOk P w H h a o) : a < h.objs.size := by
  cases o with
  | lst xs => obtain ⟨_, _, _, _, e⟩ := x; exact Heap.lt_size e
  | tup xs => obtain ⟨_, _, _, p⟩ := x; exact p.lt
  | dK kvs => obtain ⟨_, _, _, _, o, _, _, e, _⟩ := x; exact Heap.lt_size e
  | dT kvs => obtain ⟨_, _, _, _, o, _, _, e, _⟩ := x; exact Heap.lt_size e
  | set S n => obtain ⟨o, _, _, _, e, _⟩ := x; exact Heap.lt_size e
  | ins C dx fs => obtain ⟨_, _, _, e, _⟩ := x; exact Heap.lt_size e
  | own y => obtain ⟨_, e⟩ := x; exact Heap.lt_size e
  | xd fs => obtain ⟨_, ⟨_, _, _, e, _⟩, _⟩ := x; exact Heap.lt_size e
  | rng lo hi => obtain ⟨_, _, _, e⟩ := x; exact Heap.lt_size e
  | frz ob u => obtain ⟨e, _⟩ := x; exact Heap.lt_size e
  | tbl ps => exact Heap.lt_size (show h.get? a = some _ from x)
  | met f y => exact Heap.lt_size (show h.get? a = some _ from x)
  | ext φ => obtain ⟨_, ⟨_, e⟩, _⟩ := x; exact Heap.lt_size e
theorem Paired.mapP {α β : Type} {F G : α → β → Prop} : ∀ {l₁ : List α} {l₂ : List β}, Paired F l₁ l₂ → (∀ a b, F a b → G a b) → Paired G l₁ l₂
  | _, _, .nil, _ => .nil
  | _, _, .cons r t, f => .cons (f _ _ r) (Paired.mapP t f)
/-- what an object's description leans on: its own object, its own dict, the tuples -/
theorem ObjOk.stay (x : ObjOk P w H h a o) (k : ∀ b u, (b = a ∨ H b = some (.own a)) → h.get? b = some u → h'.get? b = some u)
    (ho : ∀ b, H b = some (.own a) → H' b = some (.own a)) (ht : ∀ b xs, H b = some (.tup xs) → H' b = some (.tup xs)) : ObjOk P w H' h' a o := by
  induction o with
  | lst xs => obtain ⟨z, its, n, r, e⟩ := x; exact ⟨z, its, n, r, k _ _ (.inl rfl) e⟩
  | tup xs => obtain ⟨z, its, r, ob, e, c⟩ := x; exact ⟨z, its, r, ob, k _ _ (.inl rfl) e, c⟩
  | dK kvs => obtain ⟨z, y, vs, r, ob, es, ep, e, c⟩ := x; exact ⟨z, y, vs, r, ob, es, ep, k _ _ (.inl rfl) e, c⟩
  | dT kvs =>
    obtain ⟨z, y, xs, r, ob, es, ep, e, c⟩ := x
    exact ⟨z, y, xs, Paired.mapP r fun p q z => ⟨z.1, ht _ _ z.2.1, z.2.2⟩, ob, es, ep, k _ _ (.inl rfl) e, c⟩
  | set S n => obtain ⟨ob, es, ep, t, e, c⟩ := x; exact ⟨ob, es, ep, t, k _ _ (.inl rfl) e, c⟩
  | ins C dx fs =>
    obtain ⟨d, z, ne, e, mA, ⟨od, es, ep, e2, c⟩, r⟩ := x
    exact ⟨ho _ d, z, ne, k _ _ (.inl rfl) e, mA, ⟨od, es, ep, k _ _ (.inr d) e2, c⟩, r⟩
  | own y => obtain ⟨ob, e⟩ := x; exact ⟨ob, k _ _ (.inl rfl) e⟩
  | xd fs => obtain ⟨mA, ⟨od, es, ep, e, c⟩, r⟩ := x; exact ⟨mA, ⟨od, es, ep, k _ _ (.inl rfl) e, c⟩, r⟩
  | rng lo hi => obtain ⟨t, u, v, e⟩ := x; exact ⟨t, u, v, k _ _ (.inl rfl) e⟩
  | frz ob u ih => obtain ⟨e, q⟩ := x; exact ⟨k _ _ (.inl rfl) e, ih q⟩
  | tbl ps =>
    have e : h.get? a = some { cls := .none, data := .fields ps } := x
    show h'.get? a = some { cls := .none, data := .fields ps }
    exact k a _ (.inl rfl) e
  | met f y =>
    have e : h.get? a = some (PySem.W.methodObj (.ref f) (.ref y)) := x
    show h'.get? a = some (PySem.W.methodObj (.ref f) (.ref y))
    exact k a _ (.inl rfl) e
  | ext φ => obtain ⟨p, ⟨o, e⟩, st⟩ := x; exact ⟨st _ _ p fun o q => k _ _ (.inl rfl) q, ⟨o, k _ _ (.inl rfl) e⟩, st⟩
theorem HOk.lt (x : HOk P w H h) (e : H a = some o) : a < h.objs.size := (x a o e).lt
theorem HOk.fresh (x : HOk P w H h) (e : h.objs.size ≤ a) : H a = none := by
  cases q : H a with
  | none => rfl
  | some u => exact absurd (Nat.lt_of_lt_of_le (x.lt q) e) (Nat.lt_irrefl _)
/-- every object of the heap is kept -/
theorem HOk.kept (x : HOk P w H h) (k : ∀ b u, h.get? b = some u → h'.get? b = some u) : HOk P w H h' := fun a o e =>
  (x a o e).stay (fun b u _ q => k b u q) (fun _ q => q) fun _ _ q => q
/-- a new object is laid and tracked -/
theorem HOk.laid (x : HOk P w H h) (k : ∀ b u, h.get? b = some u → h'.get? b = some u) (hp : h.objs.size ≤ a) (new : ObjOk P w (upd H a o) h' a o) : HOk P w (upd H a o) h' := fun b u e => by
  have hn := x.fresh hp
  by_cases hb : b = a
  · subst hb; rw [upd_same] at e; cases e; exact new
  · rw [upd_ne hb] at e
    exact (x b u e).stay (fun c v _ q => k c v q) (fun c q => by rw [upd_ne (ne_of_none q hn)]; exact q) fun c xs q => by rw [upd_ne (ne_of_none q hn)]; exact q
end

/-- what may be read as u: it is u, or a known u -/
def Rd (H : Hp) (a : Addr) (u : HO) : Prop := H a = some u ∨ ∃ o, H a = some (.frz o u)
theorem Rd.ok {P : Program} {w : World} {H : Hp} {h : Heap} {a : Addr} {u : HO} (r : Rd H a u) (x : HOk P w H h) : ObjOk P w H h a u := by
  rcases r with r | ⟨o, r⟩
  · exact x a u r
  · obtain ⟨_, q⟩ := x a _ r
    exact q
/-- what may be written -/
def Mut : Option HO → Prop
  | some (.lst _) => True
  | some (.dK _) => True
  | some (.dT _) => True
  | some (.set _ _) => True
  | some (.ins _ _ _) => True
  | some (.ext _) => True
  | _ => False
section
variable {P : Program} {w : World} {H : Hp} {h h' : Heap} {x e : Addr} {o' : HO}
/-- the object at e is changed: x itself, or the dict of the instance x -/
theorem HOk.write (ok : HOk P w H h) (mu : Mut (H x)) (he : e = x ∨ H e = some (.own x)) (k : ∀ b u, b ≠ e → h.get? b = some u → h'.get? b = some u) (heo : ∃ u, h'.get? e = some u)
    (new : ObjOk P w (upd H x o') h' x o') : HOk P w (upd H x o') h' := fun b u q => by
  have nown : ∀ c y, H c = some (.own y) → c ≠ x := fun c y r z => by subst z; rw [r] at mu; exact mu
  have ntup : ∀ c xs, H c = some (.tup xs) → c ≠ x := fun c xs r z => by subst z; rw [r] at mu; exact mu
  by_cases hb : b = x
  · subst hb; rw [upd_same] at q; cases q; exact new
  · rw [upd_ne hb] at q
    by_cases hbe : b = e
    · have q' : H b = some (.own x) := by
        rcases he with z | z
        · exact absurd (hbe.trans z) hb
        · rw [hbe]; exact z
      rw [q] at q'; cases q'
      obtain ⟨v, hv⟩ := heo
      exact ⟨v, by rw [hbe]; exact hv⟩
    · refine (ok b u q).stay (fun c v hc r => k c v ?_ r) (fun c r => by rw [upd_ne (nown c b r)]; exact r) fun c xs r => by rw [upd_ne (ntup c xs r)]; exact r
      rcases hc with rfl | hc
      · exact hbe
      · rintro rfl
        rcases he with z | z
        · exact nown c b hc z
        · rw [hc] at z; cases z; exact hb rfl
end

/-! ### kept unless tracked; of the frames at fs (the callers') the slots may change (an exception that passes writes there); of the records at ex (iterators) nothing is said -/
structure Un (fs ex : List Addr) (H H' : Hp) (h h' : Heap) : Prop where
  keep : ∀ b o, h.get? b = some o → H b = none → b ∉ fs → b ∉ ex → h'.get? b = some o
  slot : ∀ b o, h.get? b = some o → H b = none → b ∈ fs → b ∉ ex → ∃ sl, h'.get? b = some { o with slots := sl }
  free : ∀ b o, h.get? b = some o → H b = none → b ∉ ex → H' b = none
  there : ∀ b o, h.get? b = some o → b ∉ ex → ∃ o', h'.get? b = some o'
  tups : ∀ b xs, H b = some (.tup xs) → H' b = some (.tup xs)
  frzs : ∀ b o u, H b = some (.frz o u) → H' b = some (.frz o u)
  tbls : ∀ b ps, H b = some (.tbl ps) → ∃ more, H' b = some (.tbl (ps ++ more))
section
variable {fs fs' ex ex' : List Addr} {H H1 H2 : Hp} {h h1 h2 h' : Heap} {a x e : Addr} {o : HO}
theorem Un.any (u : Un fs ex H H1 h h1) {b : Addr} {ob : Obj} (q : h.get? b = some ob) (n : H b = none) (hx : b ∉ ex) : ∃ sl, h1.get? b = some { ob with slots := sl } := by
  by_cases hb : b ∈ fs
  · exact u.slot b ob q n hb hx
  · exact ⟨ob.slots, u.keep b ob q n hb hx⟩
theorem Un.kept (k : ∀ b u, h.get? b = some u → h'.get? b = some u) : Un fs ex H H h h' :=
  ⟨fun b ob q _ _ _ => k b ob q, fun b ob q _ _ _ => ⟨ob.slots, k b ob q⟩, fun _ _ _ n _ => n, fun b ob q _ => ⟨ob, k b ob q⟩, fun _ _ q => q, fun _ _ _ q => q, fun _ ps q => ⟨#[], by rw [q]; simp⟩⟩
theorem Un.refl : Un fs ex H H h h := Un.kept fun _ _ q => q
theorem Un.laid (k : ∀ b u, h.get? b = some u → h'.get? b = some u) (hp : h.objs.size ≤ a) (hn : H a = none) : Un fs ex H (upd H a o) h h' where
  keep := fun b u q _ _ _ => k b u q
  slot := fun b u q _ _ _ => ⟨u.slots, k b u q⟩
  free := fun b u q n _ => by rw [upd_ne (Nat.ne_of_lt (Nat.lt_of_lt_of_le (Heap.lt_size q) hp))]; exact n
  there := fun b u q _ => ⟨u, k b u q⟩
  tups := fun b xs q => by rw [upd_ne (ne_of_none q hn)]; exact q
  frzs := fun b u xs q => by rw [upd_ne (ne_of_none q hn)]; exact q
  tbls := fun b ps q => ⟨#[], by rw [upd_ne (ne_of_none q hn), q]; simp⟩
theorem Un.write (mu : Mut (H x)) (he : e = x ∨ H e = some (.own x)) (k : ∀ b u, b ≠ e → h.get? b = some u → h'.get? b = some u) (heo : ∃ u, h'.get? e = some u) : Un fs ex H (upd H x o) h h' := by
  have hx : ∀ b, H b = none → b ≠ x := fun b n z => by subst z; rw [n] at mu; exact mu
  have hb : ∀ b, H b = none → b ≠ e := fun b n z => by
    subst z
    rcases he with r | r
    · exact hx b n r
    · rw [n] at r; cases r
  have hm : ∀ b u, H b = some u → ¬ Mut (some u) → b ≠ x := fun b u q nm z => by subst z; rw [q] at mu; exact nm mu
  refine ⟨fun b u q n _ _ => k b u (hb b n) q, fun b u q n _ _ => ⟨u.slots, k b u (hb b n) q⟩, fun b u q n _ => by rw [upd_ne (hx b n)]; exact n, fun b u q _ => ?_,
    fun b xs q => by rw [upd_ne (hm b _ q fun z => z)]; exact q, fun b u xs q => by rw [upd_ne (hm b _ q fun z => z)]; exact q, fun b ps q => ⟨#[], by rw [upd_ne (hm b _ q fun z => z), q]; simp⟩⟩
  by_cases hbe : b = e
  · subst hbe; exact heo
  · exact ⟨u, k b u hbe q⟩
end

/-! ### the heap without what is tracked -/
def trk (h : Heap) (H : Hp) : List Addr := (List.range h.objs.size).filter fun a => (H a).isSome
def hidT (h : Heap) (H : Hp) : Heap := PySem.W.hideAll h (trk h H)
theorem hidT_size (h : Heap) (H : Hp) : (hidT h H).objs.size = h.objs.size := PySem.W.hideAll_size _ _
theorem hidT_get {h : Heap} {H : Hp} {b : Addr} {o : Obj} (e : h.get? b = some o) (n : H b = none) : (hidT h H).get? b = some o :=
  PySem.W.hideAll_get _ e fun hm => by
    have q : (H b).isSome = true := (List.mem_filter.mp hm).2
    rw [n] at q; simp at q
theorem of_hidT {h : Heap} {H : Hp} {b : Addr} {o : Obj} (e : (hidT h H).get? b = some o) : h.get? b = some o ∧ H b = none := by
  have e' : h.get? b = some o := PySem.W.of_hideAll (trk h H) e
  refine ⟨e', ?_⟩
  cases q : H b with
  | none => rfl
  | some x =>
    have hm : b ∈ trk h H := List.mem_filter.mpr ⟨List.mem_range.mpr (Heap.lt_size e'), by simp [q]⟩
    have z : (hidT h H).get? b = none := PySem.W.hideAll_none (trk h H) hm
    rw [z] at e; cases e

/-! ### OpenK's ledger, filled with every new object but one -/
def allNews (g h : Heap) (L : Addr) : List (Addr × Obj) := (List.range h.objs.size).filterMap fun a => if a = L ∨ (g.get? a).isSome = true then none else (h.get? a).map fun o => (a, o)
def rest (g h : Heap) (L d : Addr) : List (Addr × Obj) := (allNews g h L).filter fun p => decide (p.1 ≠ d)
end L2

namespace L2
open PySem PySem.Spec PyProof.Rows

/-- the module's facts, over the base: the heap at the law's entry without what is tracked there -/
structure Mod (K : PySem.W.Frag) (mg : Str → Option Value) (base : Heap) : Prop where
  kin : K.In base
  glob : base.Ns mainGlobals mg
  blt : ∃ mb, base.Ns builtinsNs mb ∧ ∀ x : Str, x ≠ "__name__" → mb x = bootBuiltins x
  nolimit : base.NoLimit

/-- the context: a def's body (or a comprehension's block) running. base: fixed through the whole law; s₀, H₀: the entry; outer: the frames whose slots others may change (a def's callers); stack: all frames that run;
   ex: iterators that were made ahead of the entry and are walked here (a comprehension's); fn: the names whose cells were made at the entry (a def: all; a comprehension's block: its own); calm: not within an except suite; pn: pins that every state bears; xe: what is wanted of an exception that leaves the code -/
structure Cx where
  prog : Program
  w : World
  K : PySem.W.Frag
  mg : Str → Option Value
  base : Heap
  A : Around
  N : List Str
  s₀ : Shared
  H₀ : Hp
  env : Env
  outer : List Env
  stack : List Env
  ex : List Addr
  fn : Str → Bool
  calm : Bool
  pn : List (Addr × Obj)
  xe : Value → Shared → Prop
/-- the callers' frames -/
def frs (l : List Env) : List Addr := l.filterMap (·.frame)
abbrev Cx.fs (X : Cx) : List Addr := frs X.outer

def Vis (sc : Scope) (x : Str) : Prop := sc.names.lookup x = some .local ∨ sc.names.lookup x = some .cell ∨ sc.names.lookup x = some .free
def Loc (sc : Scope) (x : Str) : Prop := sc.names.lookup x = some .local ∨ sc.names.lookup x = some .cell
def Look (env : Env) (h : Heap) (m : Str → Option Value) (x : Str) (u : Value) : Prop :=
  (env.kindOf x = some .local ∧ m x = some u) ∨ ((env.kindOf x = some .cell ∨ env.kindOf x = some .free) ∧ ∃ c, env.cells.lookup x = some c ∧ h.IsCell c (some u))

structure Cx.Ok (X : Cx) : Prop where
  mod : Mod X.K X.mg X.base
  kind : X.env.scope.kind = .function
  glob : X.env.globals = mainGlobals
  blt : X.env.builtins = builtinsNs
  above : X.s₀.heap.objs.size ≤ X.env.locals
  inj : ∀ x y c, X.env.cells.lookup x = some c → X.env.cells.lookup y = some c → x = y
  has : ∀ x, (X.env.kindOf x = some .cell ∨ X.env.kindOf x = some .free) → ∃ c, X.env.cells.lookup x = some c
  cab : ∀ x c, X.fn x = true → X.env.cells.lookup x = some c → X.s₀.heap.objs.size ≤ c
  hd : X.calm = true → X.A.handled = none
  frames : X.A.frames = some X.stack
  stk : X.stack = X.outer ∨ (X.stack = X.env :: X.outer ∧ X.env.frame = some X.env.locals)
  exf : ∀ b ∈ X.ex, b ≠ X.env.locals ∧ ∀ x c, X.env.cells.lookup x = some c → c ≠ b
  bs : ∀ b o, X.base.get? b = some o → X.s₀.heap.get? b = some o ∧ X.H₀ b = none
  bsz : X.base.objs.size ≤ X.s₀.heap.objs.size
  noex : ∀ b o, X.base.get? b = some o → b ∉ X.ex
  exfs : ∀ b ∈ X.ex, b ∉ X.fs
  funs : X.s₀.heap.FunFrames X.base X.outer
  frf : ∀ b ∈ X.fs, X.H₀ b = none

structure Inv (X : Cx) (pins : List (Addr × Obj)) (σ : List (Option V)) (H : Hp) (s : Shared) : Prop where
  ok : X.Ok
  os : s.os = X.s₀.os
  bare : AllBare s.gens
  base : Un X.fs X.ex X.H₀ H X.s₀.heap s.heap
  loc : ∃ m, s.heap.Ns X.env.locals m ∧ ∀ (i : Nat) (x : Str) (v : V), X.N[i]? = some x → σ[i]? = some (some v) → Vis X.env.scope x → ∃ u, RelV v u ∧ Look X.env s.heap m x u
  cell : ∀ x c, X.env.cells.lookup x = some c → ∃ v, s.heap.IsCell c v
  free : H X.env.locals = none
  freeC : ∀ x c, X.env.cells.lookup x = some c → H c = none
  pin : ∀ p ∈ X.pn ++ pins, s.heap.get? p.1 = some p.2 ∧ H p.1 = none ∧ p.1 ≠ X.env.locals ∧ p.1 ∉ X.fs ∧ ∀ v, p.2.data ≠ .cell v
  hok : HOk X.prog X.w H s.heap
  len : σ.length = X.N.length

section
variable {X : Cx} {pins : List (Addr × Obj)} {σ : List (Option V)} {H H' : Hp} {s : Shared} {h' : Heap}

theorem Cx.Ok.nofr (ok : X.Ok) {b : Addr} {o : Obj} (e : X.base.get? b = some o) : b ∉ X.fs := fun hb => by
  have := (ok.funs.mem hb).1
  rw [e] at this; cases this
theorem Inv.bs (I : Inv X pins σ H s) : ∀ b o, X.base.get? b = some o → s.heap.get? b = some o ∧ H b = none := fun b o e =>
  ⟨I.base.keep b o (I.ok.bs b o e).1 (I.ok.bs b o e).2 (I.ok.nofr e) (I.ok.noex b o e), I.base.free b o (I.ok.bs b o e).1 (I.ok.bs b o e).2 (I.ok.noex b o e)⟩
theorem Inv.bk (I : Inv X pins σ H s) : ∀ b o, X.base.get? b = some o → s.heap.get? b = some o := fun b o e => (I.bs b o e).1
theorem Inv.mod (I : Inv X pins σ H s) : Mod X.K X.mg X.base := I.ok.mod
theorem Inv.kIn (I : Inv X pins σ H s) : X.K.In s.heap := I.ok.mod.kin.keeps I.bk
theorem Inv.lt (I : Inv X pins σ H s) : X.env.locals < s.heap.objs.size := let ⟨_, hn, _⟩ := I.loc; hn.lt
theorem Inv.sz (I : Inv X pins σ H s) : X.s₀.heap.objs.size ≤ s.heap.objs.size := Nat.le_trans I.ok.above (Nat.le_of_lt I.lt)
theorem Inv.nofs (I : Inv X pins σ H s) {a : Addr} (h : s.heap.objs.size ≤ a) : a ∉ X.fs := fun hb => by
  obtain ⟨_, o, ho, _⟩ := I.ok.funs.mem hb
  exact absurd (Nat.lt_of_lt_of_le (Heap.lt_size ho) (Nat.le_trans I.sz h)) (Nat.lt_irrefl _)
theorem Inv.cne (I : Inv X pins σ H s) : ∀ x c, X.env.cells.lookup x = some c → c ≠ X.env.locals := fun x c e z => by
  obtain ⟨v, o, ho, hd⟩ := I.cell x c e
  obtain ⟨m, ⟨o', es, ep, ho', hd', _⟩, _⟩ := I.loc
  rw [z, ho'] at ho; cases ho; rw [hd'] at hd; cases hd
theorem Inv.funs (I : Inv X pins σ H s) : s.heap.FunFrames X.base X.outer := by
  have all : ∀ (l : List Env), (∀ b ∈ frs l, b ∈ X.fs) → X.s₀.heap.FunFrames X.base l → s.heap.FunFrames X.base l := by
    intro l
    induction l with
    | nil => intro _ _; trivial
    | cons env r ih =>
      intro hs hl
      obtain ⟨hk, ⟨L, o, hf, hn, ho, hd⟩, hr⟩ := hl
      have hL : L ∈ X.fs := hs L (by unfold frs; rw [List.filterMap_cons, hf]; exact List.mem_cons_self)
      obtain ⟨sl, e⟩ := I.base.slot L o ho (I.ok.frf L hL) hL fun z => I.ok.exfs L z hL
      exact ⟨hk, ⟨L, _, hf, hn, e, hd⟩, ih (fun b hb => hs b (by unfold frs; rw [List.filterMap_cons, hf]; exact List.mem_cons_of_mem _ hb)) hr⟩
  exact all X.outer (fun _ hb => hb) I.ok.funs

/-- the frames that run, for a call -/
theorem Inv.stack (I : Inv X pins σ H s) : s.heap.FunFrames X.base X.stack := by
  rcases I.ok.stk with e | ⟨e, hf⟩
  · rw [e]; exact I.funs
  · rw [e]
    obtain ⟨m, hn, _⟩ := I.loc
    refine .cons (by rw [I.ok.kind]; decide) hf hn ?_ I.funs
    exact Heap.get?_none_of_le (Nat.le_trans I.ok.bsz I.ok.above)
theorem Inv.stkSub (I : Inv X pins σ H s) : ∀ b ∈ frs X.stack, b ∈ X.env.locals :: X.fs := fun b hb => by
  rcases I.ok.stk with e | ⟨e, hf⟩
  · rw [e] at hb; exact List.mem_cons_of_mem _ hb
  · rw [e] at hb
    unfold frs at hb
    rw [List.filterMap_cons, hf] at hb
    exact hb
theorem Inv.stkFree (I : Inv X pins σ H s) : ∀ b ∈ frs X.stack, H b = none := fun b hb => by
  rcases List.mem_cons.mp (I.stkSub b hb) with e | hb
  · rw [e]; exact I.free
  · obtain ⟨_, o, ho, _⟩ := I.ok.funs.mem hb
    exact I.base.free b o ho (I.ok.frf b hb) fun z => I.ok.exfs b z hb

/-- THE STEP: the untracked objects but the frame and the records at ch are kept (the callers' frames up to slots), the frame's map is kept, the new abstract heap is held -/
theorem Inv.step {g' : Array GenState} {t' : Nat} {d' : Drawn} {ch : List Addr} (I : Inv X pins σ H s)
    (hch : ∀ b ∈ ch, (b ∈ X.ex ∨ X.s₀.heap.objs.size ≤ b) ∧ b ≠ X.env.locals ∧ (∀ x c, X.env.cells.lookup x = some c → c ≠ b) ∧ ∀ p ∈ X.pn ++ pins, p.1 ≠ b)
    (keep : ∀ b o, b ≠ X.env.locals → b ∉ X.fs → b ∉ ch → s.heap.get? b = some o → H b = none → h'.get? b = some o)
    (slot : ∀ b o, b ≠ X.env.locals → b ∈ X.fs → b ∉ ch → s.heap.get? b = some o → H b = none → ∃ sl, h'.get? b = some { o with slots := sl }) (free : ∀ b o, b ∉ ch → s.heap.get? b = some o → H b = none → H' b = none)
    (there : ∀ b o, b ∉ ch → s.heap.get? b = some o → ∃ o', h'.get? b = some o')
    (tups : ∀ b xs, H b = some (.tup xs) → H' b = some (.tup xs)) (frzs : ∀ b o u, H b = some (.frz o u) → H' b = some (.frz o u)) (tbls : ∀ b ps, H b = some (.tbl ps) → ∃ more, H' b = some (.tbl (ps ++ more)))
    (ns : ∀ m, s.heap.Ns X.env.locals m → h'.Ns X.env.locals m) (hok : HOk X.prog X.w H' h') (hg : AllBare g') :
    Inv X pins σ H' { s with heap := h', gens := g', drawn := d', toks := t' } := by
  have neL : ∀ b o, X.s₀.heap.get? b = some o → b ≠ X.env.locals := fun b o e => Nat.ne_of_lt (Nat.lt_of_lt_of_le (Heap.lt_size e) I.ok.above)
  have neC : ∀ b o, X.s₀.heap.get? b = some o → b ∉ X.ex → b ∉ ch := fun b o e hx hb => by
    rcases (hch b hb).1 with z | z
    · exact hx z
    · exact absurd (Nat.lt_of_lt_of_le (Heap.lt_size e) z) (Nat.lt_irrefl _)
  have cellK : ∀ x c, X.env.cells.lookup x = some c → ∀ v, s.heap.IsCell c v → h'.IsCell c v := fun x c e v ⟨o, ho, hd⟩ => by
    have nch : c ∉ ch := fun z => (hch c z).2.2.1 x c e rfl
    by_cases hc : c ∈ X.fs
    · obtain ⟨sl, q⟩ := slot c o (I.cne x c e) hc nch ho (I.freeC x c e)
      exact ⟨_, q, hd⟩
    · exact ⟨o, keep c o (I.cne x c e) hc nch ho (I.freeC x c e), hd⟩
  refine ⟨I.ok, I.os, hg, ⟨fun b o e n hb hx => ?_, fun b o e n hb hx => ?_, fun b o e n hx => ?_, fun b o e hx => ?_, fun b xs e => tups b xs (I.base.tups b xs e), fun b o xs e => frzs b o xs (I.base.frzs b o xs e), fun b ps e => ?_⟩, ?_, fun x c e => ?_, ?_, fun x c e => ?_, fun p hp => ?_, hok, I.len⟩
  · exact keep b o (neL b o e) hb (neC b o e hx) (I.base.keep b o e n hb hx) (I.base.free b o e n hx)
  · obtain ⟨sl, e1⟩ := I.base.slot b o e n hb hx
    obtain ⟨sl', e2⟩ := slot b _ (neL b o e) hb (neC b o e hx) e1 (I.base.free b o e n hx)
    exact ⟨sl', e2⟩
  · obtain ⟨o', e1⟩ := I.base.there b o e hx
    exact free b o' (neC b o e hx) e1 (I.base.free b o e n hx)
  · obtain ⟨o', e1⟩ := I.base.there b o e hx
    exact there b o' (neC b o e hx) e1
  · obtain ⟨m1, e1⟩ := I.base.tbls b ps e
    obtain ⟨m2, e2⟩ := tbls b _ e1
    exact ⟨m1 ++ m2, by rw [e2, Array.append_assoc]⟩
  · obtain ⟨m, hn, hl⟩ := I.loc
    refine ⟨m, ns m hn, fun i x v e1 e2 e3 => ?_⟩
    obtain ⟨u, r, l⟩ := hl i x v e1 e2 e3
    refine ⟨u, r, ?_⟩
    rcases l with l | ⟨k, c, e, z⟩
    · exact .inl l
    · exact .inr ⟨k, c, e, cellK x c e _ z⟩
  · obtain ⟨v, z⟩ := I.cell x c e
    exact ⟨v, cellK x c e v z⟩
  · obtain ⟨m, ⟨o, _, _, ho, _⟩, _⟩ := I.loc
    exact free _ o (fun z => (hch _ z).2.1 rfl) ho I.free
  · obtain ⟨v, o, ho, hd⟩ := I.cell x c e
    exact free c o (fun z => (hch c z).2.2.1 x c e rfl) ho (I.freeC x c e)
  · obtain ⟨e, n, ne, nf, d⟩ := I.pin p hp
    have nch : p.1 ∉ ch := fun z => (hch p.1 z).2.2.2 p hp rfl
    exact ⟨keep p.1 p.2 ne nf nch e n, free p.1 p.2 nch e n, ne, nf, d⟩
/-- .. where the frame's own object is kept too -/
theorem Inv.un {t' : Nat} (I : Inv X pins σ H s) (u : Un X.fs [] H H' s.heap h') (hok : HOk X.prog X.w H' h') : Inv X pins σ H' { s with heap := h', toks := t' } := by
  obtain ⟨m, ⟨o, es, ep, ho, r⟩, _⟩ := id I.loc
  obtain ⟨sl, hL⟩ := u.any ho I.free (by simp)
  exact I.step (g' := s.gens) (d' := s.drawn) (ch := []) (fun _ z => nomatch z) (fun b o _ hb _ e n => u.keep b o e n hb (by simp)) (fun b o _ hb _ e n => u.slot b o e n hb (by simp)) (fun b o _ e n => u.free b o e n (by simp)) (fun b o _ e => u.there b o e (by simp)) u.tups u.frzs u.tbls (fun m' hm => by
    obtain ⟨o', es', ep', ho', r'⟩ := hm
    rw [ho] at ho'; cases ho'
    exact ⟨_, es', ep', hL, r'⟩) hok I.bare
/-- behind a call (or a comprehension's block): the slots of this frame may have changed too, the records at ch may have turned -/
theorem Inv.call {g' : Array GenState} {t' : Nat} {d' : Drawn} {ch : List Addr} (I : Inv X pins σ H s) (u : Un (frs X.stack) ch H H' s.heap h') (hok : HOk X.prog X.w H' h') (hg : AllBare g')
    (hch : ∀ b ∈ ch, (b ∈ X.ex ∨ X.s₀.heap.objs.size ≤ b) ∧ b ≠ X.env.locals ∧ (∀ x c, X.env.cells.lookup x = some c → c ≠ b) ∧ ∀ p ∈ X.pn ++ pins, p.1 ≠ b) :
    Inv X pins σ H' { s with heap := h', gens := g', drawn := d', toks := t' } := by
  obtain ⟨m, ⟨o, es, ep, ho, r⟩, _⟩ := id I.loc
  obtain ⟨sl, hL⟩ := u.any ho I.free fun z => (hch _ z).2.1 rfl
  exact I.step (ch := ch) hch (fun b o hL hb hc e n => u.keep b o e n (fun z => (List.mem_cons.mp (I.stkSub b z)).elim hL hb) hc) (fun b o _ _ hc e n => u.any e n hc) (fun b o hc e n => u.free b o e n hc) (fun b o hc e => u.there b o e hc) u.tups u.frzs u.tbls (fun m' hm => by
    obtain ⟨o', es', ep', ho', r'⟩ := hm
    rw [ho] at ho'; cases ho'
    exact ⟨_, es', ep', hL, r'⟩) hok hg
/-- an untracked record of ours (an iterator) has turned -/
theorem Inv.turned {t' : Nat} {it : Addr} (I : Inv X pins σ H s) (k : ∀ b o, b ≠ it → s.heap.get? b = some o → h'.get? b = some o) (hn : H it = none) (hL : it ≠ X.env.locals)
    (h1 : it ∈ X.ex ∨ X.s₀.heap.objs.size ≤ it) (h2 : ∀ x c, X.env.cells.lookup x = some c → c ≠ it) (h3 : ∀ p ∈ X.pn ++ pins, p.1 ≠ it) : Inv X pins σ H { s with heap := h', toks := t' } := by
  have nit : ∀ b u, H b = some u → b ≠ it := fun b u e z => by rw [z, hn] at e; cases e
  refine I.step (g' := s.gens) (d' := s.drawn) (ch := [it]) (fun b hb => ?_) (fun b o _ _ hc e _ => k b o (fun z => hc (by simp [z])) e) (fun b o _ _ hc e _ => ⟨o.slots, k b o (fun z => hc (by simp [z])) e⟩) (fun _ _ _ _ n => n)
    (fun b o hc e => ⟨o, k b o (fun z => hc (by simp [z])) e⟩) (fun _ _ e => e) (fun _ _ _ e => e) (fun b ps e => ⟨#[], by rw [e]; simp⟩) (fun m hm => ?_) (fun b u e => ?_) I.bare
  · have e : b = it := by simpa using hb
    subst e
    exact ⟨h1, hL, h2, h3⟩
  · obtain ⟨o, es, ep, ho, r⟩ := hm
    exact ⟨o, es, ep, k _ o (Ne.symm hL) ho, r⟩
  · refine (I.hok b u e).stay (fun c v hc q => k c v ?_ q) (fun _ q => q) fun _ _ q => q
    rcases hc with z | z
    · rw [z]; exact nit b u e
    · exact nit c _ z
theorem Inv.tok (I : Inv X pins σ H s) (t : Nat) : Inv X pins σ H { s with toks := t } := I.un (h' := s.heap) (t' := t) Un.refl I.hok
/-- all objects kept -/
theorem Inv.kept {t' : Nat} (I : Inv X pins σ H s) (k : ∀ b u, s.heap.get? b = some u → h'.get? b = some u) : Inv X pins σ H { s with heap := h', toks := t' } := I.un (Un.kept k) (I.hok.kept k)
/-- a new object laid and tracked -/
theorem Inv.laid {a : Addr} {o : HO} {t' : Nat} (I : Inv X pins σ H s) (k : ∀ b u, s.heap.get? b = some u → h'.get? b = some u) (hp : s.heap.objs.size ≤ a) (new : ObjOk X.prog X.w (upd H a o) h' a o) :
    Inv X pins σ (upd H a o) { s with heap := h', toks := t' } := I.un (Un.laid k hp (I.hok.fresh hp)) (I.hok.laid k hp new)
/-- an object written -/
theorem Inv.write {x e : Addr} {o : HO} {t' : Nat} (I : Inv X pins σ H s) (mu : Mut (H x)) (he : e = x ∨ H e = some (.own x)) (k : ∀ b u, b ≠ e → s.heap.get? b = some u → h'.get? b = some u) (heo : ∃ u, h'.get? e = some u)
    (new : ObjOk X.prog X.w (upd H x o) h' x o) : Inv X pins σ (upd H x o) { s with heap := h', toks := t' } := I.un (Un.write mu he k heo) (I.hok.write mu he k heo new)
theorem Inv.pins_of {pins' : List (Addr × Obj)} (I : Inv X pins σ H s) (h : ∀ p ∈ pins', s.heap.get? p.1 = some p.2 ∧ H p.1 = none ∧ p.1 ≠ X.env.locals ∧ p.1 ∉ X.fs ∧ ∀ v, p.2.data ≠ .cell v) : Inv X pins' σ H s :=
  ⟨I.ok, I.os, I.bare, I.base, I.loc, I.cell, I.free, I.freeC, fun p hp => (List.mem_append.mp hp).elim (fun z => I.pin p (List.mem_append_left _ z)) (h p), I.hok, I.len⟩

theorem nodup_ix {N : List Str} (hN : N.Nodup) {i j : Nat} {x : Str} (a : N[i]? = some x) (b : N[j]? = some x) : i = j := by
  obtain ⟨h1, e1⟩ := List.getElem?_eq_some_iff.mp a
  obtain ⟨h2, e2⟩ := List.getElem?_eq_some_iff.mp b
  exact (List.getElem_inj hN).mp (e1.trans e2.symm)

/-- a name is stored; what changed -/
theorem store_ok2 {M : Model} {A : Around} {E : Value → Shared → Prop} {i : Nat} {x : Str} {v : V} {u : Value} {Q : Unit → Shared → Prop} (I : Inv X pins σ H s) (hN : X.N.Nodup) (hi : X.N[i]? = some x) (hx : Loc X.env.scope x) (r : RelV v u)
    (h : ∀ s', Inv X pins (σ.set i (some v)) H s' → (∃ a, Heap.SameBut a s.heap s'.heap ∧ (a = X.env.locals ∨ X.env.cells.lookup x = some a)) → Q () s') (hf : X.fn x = true ∨ X.env.scope.names.lookup x = some .local := by first | exact .inl rfl | exact .inr rfl | assumption) : wpAny M A (storeName X.env x u) Q E s := by
  obtain ⟨m, hn, hl⟩ := id I.loc
  have hcls : (X.env.scope.kind == .class || (X.env.scope.kind == .module && X.env.locals != X.env.globals)) = false := by rw [I.ok.kind]; rfl
  have hiσ : i < σ.length := by rw [I.len]; exact (List.getElem?_eq_some_iff.mp hi).1
  have cne := I.cne
  have tracked : ∀ {a : Addr} {h' : Heap}, (∃ o, s.heap.get? a = some o ∧ H a = none) → Heap.SameBut a s.heap h' → HOk X.prog X.w H h' := fun {a h'} ha hs b ob e => by
    obtain ⟨_, _, hfree⟩ := ha
    refine (I.hok b ob e).stay (fun c w' hc q => (hs.2 c ?_).trans q) (fun _ q => q) fun _ _ q => q
    rintro rfl
    rcases hc with rfl | hc
    · rw [hfree] at e; cases e
    · rw [hfree] at hc; cases hc
  rcases hx with hk | hk
  · refine wpAny_storeName_local hk hn (fun h' hn' hs => ?_) hcls
    obtain ⟨oL, _, _, hoL, _⟩ := id hn
    refine h _ ⟨I.ok, I.os, I.bare, ⟨fun b o e n hb hx => ?_, fun b o e n hb hx => ?_, I.base.free, fun b o e hx => ?_, I.base.tups, I.base.frzs, I.base.tbls⟩, ⟨_, hn', fun j y v' e1 e2 e3 => ?_⟩, fun y c e => ?_, I.free, I.freeC, fun p hp => ?_, tracked ⟨oL, hoL, I.free⟩ hs, by simpa using I.len⟩ ⟨_, hs, .inl rfl⟩
    · exact (hs.2 b (Nat.ne_of_lt (Nat.lt_of_lt_of_le (Heap.lt_size e) I.ok.above))).trans (I.base.keep b o e n hb hx)
    · obtain ⟨sl, e1⟩ := I.base.slot b o e n hb hx
      exact ⟨sl, (hs.2 b (Nat.ne_of_lt (Nat.lt_of_lt_of_le (Heap.lt_size e) I.ok.above))).trans e1⟩
    · obtain ⟨o', e1⟩ := I.base.there b o e hx
      exact ⟨o', (hs.2 b (Nat.ne_of_lt (Nat.lt_of_lt_of_le (Heap.lt_size e) I.ok.above))).trans e1⟩
    · by_cases hj : j = i
      · subst hj
        rw [hi] at e1; cases e1
        rw [List.getElem?_set_self hiσ] at e2
        cases e2
        exact ⟨u, r, .inl ⟨hk, by simp⟩⟩
      · rw [List.getElem?_set_ne (Ne.symm hj)] at e2
        obtain ⟨u', r', q⟩ := hl j y v' e1 e2 e3
        refine ⟨u', r', ?_⟩
        rcases q with ⟨k, e⟩ | ⟨k, c, e, z⟩
        · refine .inl ⟨k, ?_⟩
          have : y ≠ x := fun e => hj (nodup_ix hN e1 (e ▸ hi))
          simp [this, e]
        · exact .inr ⟨k, c, e, z.sameBut hs (cne y c e)⟩
    · obtain ⟨w', z⟩ := I.cell y c e
      exact ⟨w', z.sameBut hs (cne y c e)⟩
    · obtain ⟨e, n, ne, nf, d⟩ := I.pin p hp
      exact ⟨(hs.2 p.1 ne).trans e, n, ne, nf, d⟩
  · have hfn : X.fn x = true := by
      rcases hf with z | z
      · exact z
      · rw [z] at hk; cases hk
    obtain ⟨c, hc⟩ := I.ok.has x (.inl hk)
    obtain ⟨w', z⟩ := I.cell x c hc
    refine wpAny_storeName_cell I.ok.kind hk hc z (fun h' hc' hs => ?_)
    obtain ⟨oc, hoc, hocd⟩ := id z
    refine h { s with heap := h' } ⟨I.ok, I.os, I.bare, ⟨fun b o e n hb hx => ?_, fun b o e n hb hx => ?_, I.base.free, fun b o e hx => ?_, I.base.tups, I.base.frzs, I.base.tbls⟩, ⟨m, hn.sameBut hs (Ne.symm (cne x c hc)), fun j y v' e1 e2 e3 => ?_⟩, fun y c' e => ?_, I.free, I.freeC, fun p hp => ?_, tracked ⟨oc, hoc, I.freeC x c hc⟩ hs, by simpa using I.len⟩ ⟨c, hs, .inr hc⟩
    · exact (hs.2 b (Nat.ne_of_lt (Nat.lt_of_lt_of_le (Heap.lt_size e) (I.ok.cab x c hfn hc)))).trans (I.base.keep b o e n hb hx)
    · obtain ⟨sl, e1⟩ := I.base.slot b o e n hb hx
      exact ⟨sl, (hs.2 b (Nat.ne_of_lt (Nat.lt_of_lt_of_le (Heap.lt_size e) (I.ok.cab x c hfn hc)))).trans e1⟩
    · obtain ⟨o', e1⟩ := I.base.there b o e hx
      exact ⟨o', (hs.2 b (Nat.ne_of_lt (Nat.lt_of_lt_of_le (Heap.lt_size e) (I.ok.cab x c hfn hc)))).trans e1⟩
    · by_cases hj : j = i
      · subst hj
        rw [hi] at e1; cases e1
        rw [List.getElem?_set_self hiσ] at e2
        cases e2
        exact ⟨u, r, .inr ⟨.inl hk, c, hc, hc'⟩⟩
      · rw [List.getElem?_set_ne (Ne.symm hj)] at e2
        obtain ⟨u', r', q⟩ := hl j y v' e1 e2 e3
        refine ⟨u', r', ?_⟩
        rcases q with q | ⟨k, c', e, z'⟩
        · exact .inl q
        · refine .inr ⟨k, c', e, z'.sameBut hs ?_⟩
          rintro rfl
          exact hj (nodup_ix hN e1 (I.ok.inj _ _ _ e hc ▸ hi))
    · by_cases hcc : c' = c
      · subst hcc; exact ⟨_, hc'⟩
      · obtain ⟨w2, z2⟩ := I.cell y c' e
        exact ⟨w2, z2.sameBut hs hcc⟩
    · obtain ⟨e, n, ne, nf, d⟩ := I.pin p hp
      refine ⟨(hs.2 p.1 ?_).trans e, n, ne, nf, d⟩
      intro q
      rw [q, hoc] at e
      have q' : oc = p.2 := Option.some.inj e
      exact d w' (by rw [← q']; exact hocd)
theorem store_ok {M : Model} {A : Around} {E : Value → Shared → Prop} {i : Nat} {x : Str} {v : V} {u : Value} {Q : Unit → Shared → Prop} (I : Inv X pins σ H s) (hN : X.N.Nodup) (hi : X.N[i]? = some x) (hx : Loc X.env.scope x) (r : RelV v u)
    (h : ∀ s', Inv X pins (σ.set i (some v)) H s' → Q () s') (hf : X.fn x = true ∨ X.env.scope.names.lookup x = some .local := by first | exact .inl rfl | exact .inr rfl | assumption) : wpAny M A (storeName X.env x u) Q E s :=
  store_ok2 I hN hi hx r (fun s' I' _ => h s' I') hf
/-- behind a call or a block, the state as it is -/
theorem Inv.call' {s' : Shared} {ch : List Addr} (I : Inv X pins σ H s) (ho : s'.os = s.os) (u : Un (frs X.stack) ch H H' s.heap s'.heap) (hok : HOk X.prog X.w H' s'.heap) (hg : AllBare s'.gens)
    (hch : ∀ b ∈ ch, (b ∈ X.ex ∨ X.s₀.heap.objs.size ≤ b) ∧ b ≠ X.env.locals ∧ (∀ x c, X.env.cells.lookup x = some c → c ≠ b) ∧ ∀ p ∈ X.pn ++ pins, p.1 ≠ b) : Inv X pins σ H' s' := by
  obtain ⟨h', g', d', t', o'⟩ := s'
  have e : o' = s.os := ho
  subst e
  exact I.call (g' := g') (t' := t') (d' := d') u hok hg hch
end

/-! ### the judgements -/
/-- an exception: its class, its own dict's address (where it has one), the abstract heap behind it -/
abbrev XK := Value → Option Addr → Hp → Prop
abbrev St := List (Option V)
abbrev VK := V → Hp → Prop
/-- an expression's reading; a test's; an argument list's -/
abbrev TE := St → Hp → VK → Prop
abbrev TT := St → Hp → (Bool → Hp → Prop) → Prop
abbrev TA := St → Hp → (List V → Hp → Prop) → Prop
/-- what is wanted behind a statement -/
structure Ends where
  nx : St → Hp → Prop
  rt : VK
  bk : St → Hp → Prop := fun _ _ => False
  ct : St → Hp → Prop := fun _ _ => False
abbrev TS := Ends → St → Hp → Prop

def EP (X : Cx) (pins : List (Addr × Obj)) (σ : St) (Q : VK) (u : Value) (s' : Shared) : Prop := ∃ v H', Inv X pins σ H' s' ∧ RelV v u ∧ Q v H'
def TP (X : Cx) (pins : List (Addr × Obj)) (σ : St) (Q : Bool → Hp → Prop) (b : Bool) (s' : Shared) : Prop := ∃ H', Inv X pins σ H' s' ∧ Q b H'
def AP (X : Cx) (pins : List (Addr × Obj)) (σ : St) (Q : List V → Hp → Prop) (us : List Value) (s' : Shared) : Prop := ∃ vs H', Inv X pins σ H' s' ∧ Vals vs us ∧ Q vs H'
def SP (X : Cx) (pins : List (Addr × Obj)) (D : Ends) (f : Flow) (s' : Shared) : Prop :=
  match f with
  | .next => ∃ σ' H', Inv X pins σ' H' s' ∧ D.nx σ' H'
  | .brk => ∃ σ' H', Inv X pins σ' H' s' ∧ D.bk σ' H'
  | .cont => ∃ σ' H', Inv X pins σ' H' s' ∧ D.ct σ' H'
  | .ret u => ∃ v σ' H', Inv X pins σ' H' s' ∧ RelV v u ∧ D.rt v H'

def PE (X : Cx) (e : Expr) (t : TE) : Prop :=
  ∀ (pins : List (Addr × Obj)) (s : Shared) (σ : St) (H : Hp) (Q : VK), Inv X pins σ H s → t σ H Q → wpAny (model X.prog X.w) X.A (eval e X.env) (EP X pins σ Q) X.xe s
def PT (X : Cx) (e : Expr) (t : TT) : Prop :=
  ∀ (pins : List (Addr × Obj)) (s : Shared) (σ : St) (H : Hp) (Q : Bool → Hp → Prop), Inv X pins σ H s → t σ H Q → wpAny (model X.prog X.w) X.A (isTrue e X.env (eval e X.env)) (TP X pins σ Q) X.xe s
/-- a test whatever its 'whole' is (and, or) -/
def PW (X : Cx) (e : Expr) (t : TT) : Prop :=
  ∀ (whole : Sem Value) (pins : List (Addr × Obj)) (s : Shared) (σ : St) (H : Hp) (Q : Bool → Hp → Prop), Inv X pins σ H s → t σ H Q → wpAny (model X.prog X.w) X.A (isTrue e X.env whole) (TP X pins σ Q) X.xe s
theorem PW.pt {X : Cx} {e : Expr} {t : TT} (h : PW X e t) : PT X e t := h _
/-- an argument list (no star), from the left -/
def PA (X : Cx) (es : List Expr) (t : TA) : Prop :=
  ∀ (pos : Pos) (pins : List (Addr × Obj)) (s : Shared) (σ : St) (H : Hp) (Q : List V → Hp → Prop), Inv X pins σ H s → t σ H Q → wpAny (model X.prog X.w) X.A (spliced (backTo pos (starEach es X.env))) (AP X pins σ Q) X.xe s
def PS (X : Cx) (st : Stmt) (t : TS) : Prop :=
  ∀ (pins : List (Addr × Obj)) (s : Shared) (σ : St) (H : Hp) (D : Ends), Inv X pins σ H s → t D σ H → wpAny (model X.prog X.w) X.A (exec st X.env) (SP X pins D) X.xe s
def PSs (X : Cx) (st : List Stmt) (t : TS) : Prop :=
  ∀ (pins : List (Addr × Obj)) (s : Shared) (σ : St) (H : Hp) (D : Ends), Inv X pins σ H s → t D σ H → wpAny (model X.prog X.w) X.A (execs st X.env) (SP X pins D) X.xe s
/-- weaken the end -/
theorem thn {α : Type} {t : Sem α} {Q Q' : α → Shared → Prop} {M : Model} {A : Around} {E : Value → Shared → Prop} {s : Shared} (h : wpAny M A t Q E s) (hQ : ∀ a s, Q a s → Q' a s) : wpAny M A t Q' E s := wpAny_mono h hQ fun _ _ x => x
end L2

namespace L2
open PySem PySem.Spec PyProof.Rows
section
variable {X : Cx}


/-! ### names and constants -/
def tVar (i : Nat) : TE := fun σ H Q => ∃ v, σ[i]? = some (some v) ∧ Q v H
def tC (v : V) : TE := fun _ H Q => Q v H
theorem pe_var {i : Nat} {x : Str} {pos : Pos} (hN : X.N[i]? = some x) (hv : Vis X.env.scope x) (hd : (x == ("__debug__" : Str)) = false := by decide) (hcd : (x == ("__classdict__" : Str)) = false := by decide) : PE X (.Name x pos) (tVar i) := by
  intro pins s σ H Q I h
  obtain ⟨v, e, h⟩ := h
  obtain ⟨m, hn, hl⟩ := I.loc
  obtain ⟨u, r, l⟩ := hl i x v hN e hv
  have fin : EP X pins σ Q u s := ⟨v, H, I, r, h⟩
  rcases l with ⟨hk, hm⟩ | ⟨hk, c, hc, hcell⟩
  · exact wpAny_Name (wpAny_loadName_local I.ok.kind hk hn hm fin) hd
  · rcases hk with hk | hk
    · exact wpAny_Name (wpAny_loadName_cell I.ok.kind hk hc hcell fin) hd
    · exact wpAny_Name (wpAny_loadName_free I.ok.kind hk hc hcell fin hcd) hd
theorem pe_int {i j pos} : PE X (.Constant (.int i) j pos) (tC (.int i)) := fun _ _ _ H _ I h => wpAny_Constant_int ⟨.int i, H, I.tok _, ⟨_, rfl⟩, h⟩
theorem pe_bl {b j pos} : PE X (.Constant (.bool b) j pos) (tC (.bl b)) := fun _ _ _ H _ I h => Constant_bool ⟨.bl b, H, I, rfl, h⟩
theorem pe_str {x j pos} : PE X (.Constant (.str x) j pos) (tC (.str x)) := fun _ _ _ H _ I h => Calls.Constant_str ⟨.str x, H, I.tok _, ⟨_, rfl⟩, h⟩

/-- a global name of the def -/
def Gl (X : Cx) (x : Str) : Prop := X.env.kindOf x = some .globalImplicit
theorem ld_glob {E : Value → Shared → Prop} {pins : List (Addr × Obj)} {s : Shared} {σ : St} {H : Hp} {x : Str} {u : Value} {pos : Pos} {Q : Value → Shared → Prop} (I : Inv X pins σ H s) (hg : Gl X x) (hm : X.mg x = some u) (h : Q u s)
    (hd : (x == ("__debug__" : Str)) = false := by decide) : wpAny (model X.prog X.w) X.A (eval (.Name x pos) X.env) Q E s :=
  Calls.Name_function_global I.ok.kind hg (Calls.loadGlobal_global (by rw [I.ok.glob]; exact I.mod.glob.keeps I.bk) hm h) hd
theorem ld_blt {E : Value → Shared → Prop} {pins : List (Addr × Obj)} {s : Shared} {σ : St} {H : Hp} {x : Str} {u : Value} {pos : Pos} {Q : Value → Shared → Prop} (I : Inv X pins σ H s) (hg : Gl X x) (hm : X.mg x = none) (hv : bootBuiltins x = some u) (h : Q u s)
    (hn : x ≠ "__name__" := by decide) (hd : (x == ("__debug__" : Str)) = false := by decide) : wpAny (model X.prog X.w) X.A (eval (.Name x pos) X.env) Q E s := by
  obtain ⟨mb, h1, h2⟩ := I.mod.blt
  exact Calls.Name_function_global I.ok.kind hg (Calls.loadGlobal_builtin (by rw [I.ok.glob]; exact I.mod.glob.keeps I.bk) hm (by rw [I.ok.blt]; exact h1.keeps I.bk) ((h2 x hn).trans hv) h) hd
/-- a module's constant, a class, a function, as a value -/
theorem pe_glob {x : Str} {v : V} {u : Value} {pos : Pos} (hg : Gl X x) (hm : X.mg x = some u) (r : RelV v u) (hd : (x == ("__debug__" : Str)) = false := by decide) : PE X (.Name x pos) (tC v) :=
  fun _ _ _ H _ I h => ld_glob I hg hm ⟨v, H, I, r, h⟩ hd
theorem pe_bltn {x : Str} {v : V} {u : Value} {pos : Pos} (hg : Gl X x) (hm : X.mg x = none) (hv : bootBuiltins x = some u) (r : RelV v u) (hn : x ≠ "__name__" := by decide) (hd : (x == ("__debug__" : Str)) = false := by decide) : PE X (.Name x pos) (tC v) :=
  fun _ _ _ H _ I h => ld_blt I hg hm hv ⟨v, H, I, r, h⟩ hn hd

/-! ### arithmetic -/
/-- two ints -/
def t2I (ta tb : TE) (k : Int → Int → Hp → Prop) : St → Hp → Prop := fun σ H => ta σ H fun x H1 => tb σ H1 fun y H2 => ∃ i j, x = .int i ∧ y = .int j ∧ k i j H2
def tAdd (ta tb : TE) : TE := fun σ H Q => t2I ta tb (fun i j H2 => Q (.int (i + j)) H2) σ H
def tSub (ta tb : TE) : TE := fun σ H Q => t2I ta tb (fun i j H2 => Q (.int (i - j)) H2) σ H
/-- the left factor below 2^64 -/
def tMul (ta tb : TE) : TE := fun σ H Q => t2I ta tb (fun i j H2 => (-(2 ^ 64) < i ∧ i < 2 ^ 64) ∧ Q (.int (i * j)) H2) σ H
variable {a b : Expr} {ta tb : TE} {pos : Pos}

/-! ### comparisons -/
def PC (X : Cx) (op : CmpOp) (a b : Expr) (t : TE) : Prop :=
  ∀ (pins : List (Addr × Obj)) (s : Shared) (σ : St) (H : Hp) (Q : VK), Inv X pins σ H s → t σ H Q →
    wpAny (model X.prog X.w) X.A (eval a X.env) (fun v s₁ => wpAny (model X.prog X.w) X.A (eval b X.env) (fun u s₂ => wpAny (model X.prog X.w) X.A (compareOp op v u) (EP X pins σ Q) X.xe s₂) X.xe s₁) X.xe s
def tCmp (p : Int → Int → Bool) (ta tb : TE) : TE := fun σ H Q => t2I ta tb (fun i j H2 => Q (.bl (p i j)) H2) σ H
abbrev tLt : TE → TE → TE := tCmp fun i j => decide (i < j)
abbrev tLe : TE → TE → TE := tCmp fun i j => decide (i ≤ j)
abbrev tGt : TE → TE → TE := tCmp fun i j => decide (j < i)
abbrev tGe : TE → TE → TE := tCmp fun i j => decide (j ≤ i)
abbrev tEqI : TE → TE → TE := tCmp fun i j => decide (i = j)
abbrev tNeI : TE → TE → TE := tCmp fun i j => !decide (i = j)
/-- is None -/
def tIsN (ta : TE) : TE := fun σ H Q => ta σ H fun x H1 => Q (.bl (decide (x = .non))) H1
def tNotN (ta : TE) : TE := fun σ H Q => ta σ H fun x H1 => Q (.bl (!decide (x = .non))) H1
/-- a comparison as a value, as a test -/
def tB (t : TE) : TT := fun σ H Q => t σ H fun x H1 => ∃ c, x = .bl c ∧ Q c H1
/-- an expression whose value is a bool, as a test -/
theorem pt_val {e : Expr} {t : TE} (h : PE X e t) (he : ∀ whole, isTrue e X.env whole = (do let v ← whole; standAt e.pos; holding [v] (truthy v)) := by intro _; rfl) : PT X e (tB t) := by
  intro pins s σ H Q I hw
  refine isTrue_plain (thn (h pins s σ H _ I hw) fun v s1 ⟨x, H1, I1, r1, q1⟩ => ?_) (he _)
  obtain ⟨d, rfl, q⟩ := q1
  cases r1
  exact wpAny_truthy_bool ⟨H1, I1, q⟩

/-! ### and, or, not -/
variable {tA tB' : TT} {rest : List Expr}
def tAnd (t u : TT) : TT := fun σ H Q => t σ H fun c H1 => if c = true then u σ H1 Q else Q false H1
def tOr (t u : TT) : TT := fun σ H Q => t σ H fun c H1 => if c = true then Q true H1 else u σ H1 Q
def tNot (t : TT) : TT := fun σ H Q => t σ H fun c H1 => Q (!c) H1
theorem pw_and1 (ha : PT X a tA) : PW X (.BoolOp .And [a] pos) tA := by
  intro wh pins s σ H Q I h
  refine isTrue_and (thn (ha pins s σ H Q I h) fun c s1 e => ?_)
  cases c with
  | true => exact isTrue_and_nil e
  | false => exact e
theorem pw_or1 (ha : PT X a tA) : PW X (.BoolOp .Or [a] pos) tA := by
  intro wh pins s σ H Q I h
  refine isTrue_or (thn (ha pins s σ H Q I h) fun c s1 e => ?_)
  cases c with
  | false => exact isTrue_or_nil e
  | true => exact e
theorem pw_and (ha : PT X a tA) (hb : PW X (.BoolOp .And (b :: rest) pos) tB') : PW X (.BoolOp .And (a :: b :: rest) pos) (tAnd tA tB') := by
  intro wh pins s σ H Q I h
  refine isTrue_and (thn (ha pins s σ H _ I h) fun c s1 ⟨H1, I1, q1⟩ => ?_)
  cases c with
  | true => exact hb wh pins s1 σ H1 Q I1 q1
  | false => exact ⟨H1, I1, q1⟩
theorem pw_or (ha : PT X a tA) (hb : PW X (.BoolOp .Or (b :: rest) pos) tB') : PW X (.BoolOp .Or (a :: b :: rest) pos) (tOr tA tB') := by
  intro wh pins s σ H Q I h
  refine isTrue_or (thn (ha pins s σ H _ I h) fun c s1 ⟨H1, I1, q1⟩ => ?_)
  cases c with
  | true => exact ⟨H1, I1, q1⟩
  | false => exact hb wh pins s1 σ H1 Q I1 q1
theorem pt_not (ha : PT X a tA) : PT X (.UnaryOp .Not a pos) (tNot tA) := by
  intro pins s σ H Q I h
  exact isTrue_not (ha pins s σ H (fun c H1 => Q (!c) H1) I h)
/-- .. as values (bools) -/
def tAndV (ta tb : TE) : TE := fun σ H Q => ta σ H fun x H1 => ∃ c, x = .bl c ∧ if c = true then tb σ H1 Q else Q (.bl false) H1
def tOrV (ta tb : TE) : TE := fun σ H Q => ta σ H fun x H1 => ∃ c, x = .bl c ∧ if c = true then Q (.bl true) H1 else tb σ H1 Q
def tNotV (ta : TE) : TE := fun σ H Q => ta σ H fun x H1 => ∃ c, x = .bl c ∧ Q (.bl (!c)) H1
theorem pe_one {op} {t : TE} (h : PE X a t) : PE X (.BoolOp op [a] pos) t := fun pins s σ H Q I hw => BoolOp_one (h pins s σ H Q I hw)
theorem pe_and (ha : PE X a ta) (hb : PE X (.BoolOp .And (b :: rest) pos) tb) : PE X (.BoolOp .And (a :: b :: rest) pos) (tAndV ta tb) := by
  intro pins s σ H Q I h
  refine BoolOp_and (thn (ha pins s σ H _ I h) fun v s1 ⟨x, H1, I1, r1, q1⟩ => ?_)
  obtain ⟨c, rfl, q1⟩ := q1
  cases r1
  refine wpAny_truthy_bool ?_
  cases c with
  | true => exact hb pins s1 σ H1 Q I1 q1
  | false => exact ⟨.bl false, H1, I1, rfl, q1⟩
theorem pe_or (ha : PE X a ta) (hb : PE X (.BoolOp .Or (b :: rest) pos) tb) : PE X (.BoolOp .Or (a :: b :: rest) pos) (tOrV ta tb) := by
  intro pins s σ H Q I h
  refine BoolOp_or (thn (ha pins s σ H _ I h) fun v s1 ⟨x, H1, I1, r1, q1⟩ => ?_)
  obtain ⟨c, rfl, q1⟩ := q1
  cases r1
  refine wpAny_truthy_bool ?_
  cases c with
  | false => exact hb pins s1 σ H1 Q I1 q1
  | true => exact ⟨.bl true, H1, I1, rfl, q1⟩
theorem pe_not (ha : PE X a ta) : PE X (.UnaryOp .Not a pos) (tNotV ta) := by
  intro pins s σ H Q I h
  refine UnaryOp_ (thn (ha pins s σ H _ I h) fun v s1 ⟨x, H1, I1, r1, q1⟩ => ?_)
  obtain ⟨c, rfl, q1⟩ := q1
  cases r1
  exact not_of (wpAny_truthy_bool ⟨.bl (!c), H1, I1, rfl, q1⟩)
/-- a if t else b -/
def tIf (t : TT) (ta tb : TE) : TE := fun σ H Q => t σ H fun c H1 => if c = true then ta σ H1 Q else tb σ H1 Q
end
end L2

namespace L2
open PySem PySem.Spec PyProof.Rows

/-! ### a list, a tuple that is read: tracked, frozen, or an object of the module -/
def SqL (K : PySem.W.Frag) (H : Hp) (a : Addr) (xs : List V) : Prop :=
  Rd H a (.lst xs) ∨
    ∃ (o : Obj) (its : Array Value) (n : Nat), K.lookup a = some o ∧ o.cls = .type "list" ∧ o.dict = none ∧ o.data = .seq its n ∧ its.size ≤ sizeLine ∧ Vals xs its.toList
def SqT (K : PySem.W.Frag) (H : Hp) (a : Addr) (xs : List V) : Prop :=
  Rd H a (.tup xs) ∨
    ∃ (o : Obj) (its : Array Value) (n : Nat), K.lookup a = some o ∧ o.cls = .type "tuple" ∧ o.data = .seq its n ∧ its.size ≤ sizeLine ∧ Vals xs its.toList
def absV : Value → Option V
  | .none => some .non
  | .bool b => some (.bl b)
  | .int i _ => some (.int i)
  | .str x _ => some (.str x)
  | .bytes b _ => some (.byt b)
  | .float b _ => some (.flt b)
  | .ref a => some (.ref a)
  | .type n => some (.ty n)
  | _ => none
theorem RelV.abs {x : V} {u : Value} (r : RelV x u) : absV u = some x := by
  cases x with
  | non => cases r; rfl
  | bl _ => cases r; rfl
  | int _ => obtain ⟨t, rfl⟩ := r; rfl
  | str _ => obtain ⟨t, rfl⟩ := r; rfl
  | byt _ => obtain ⟨t, rfl⟩ := r; rfl
  | flt _ => obtain ⟨t, rfl⟩ := r; rfl
  | ref _ => cases r; rfl
  | ty _ => cases r; rfl
theorem RelV.inj {x y : V} {u : Value} (r : RelV x u) (q : RelV y u) : x = y := Option.some.inj (r.abs.symm.trans q.abs)
theorem Vals.inj : ∀ {xs ys : List V} {us : List Value}, Vals xs us → Vals ys us → xs = ys
  | _, _, _, .nil, .nil => rfl
  | _, _, _, .cons r t, .cons r' t' => by rw [r.inj r', Vals.inj t t']
section
variable {X : Cx} {pins : List (Addr × Obj)} {σ : St} {H : Hp} {s : Shared} {a : Addr} {xs ys : List V}
theorem SqL.of {K : PySem.W.Frag} (h : H a = some (.lst xs)) : SqL K H a xs := .inl (.inl h)
theorem SqT.of {K : PySem.W.Frag} (h : H a = some (.tup xs)) : SqT K H a xs := .inl (.inl h)
theorem Inv.list (I : Inv X pins σ H s) (h : SqL X.K H a xs) : ∃ its : List Value, Vals xs its ∧ PlainL s.heap a its.toArray ∧ xs.length ≤ sizeLine := by
  rcases h with h | ⟨o, its, n, hk, hc, hd, hs, hz, r⟩
  · obtain ⟨z, its, n, r, e⟩ := h.ok I.hok
    exact ⟨its, r, ⟨_, n, e, rfl, rfl, rfl⟩, z⟩
  · refine ⟨its.toList, r, ⟨o, n, I.kIn a o hk, hc, hd, by simpa using hs⟩, ?_⟩
    have e := r.length
    simp only [Array.length_toList] at e
    omega
theorem Inv.tuple (I : Inv X pins σ H s) (h : SqT X.K H a xs) : ∃ its : List Value, Vals xs its ∧ IsTup s.heap a its.toArray ∧ xs.length ≤ sizeLine := by
  rcases h with h | ⟨o, its, n, hk, hc, hs, hz, r⟩
  · obtain ⟨z, its, r, p⟩ := h.ok I.hok
    exact ⟨its, r, p, z⟩
  · refine ⟨its.toList, r, ⟨o, I.kIn a o hk, hc, n, by simpa using hs⟩, ?_⟩
    have e := r.length
    simp only [Array.length_toList] at e
    omega
theorem Inv.list_inj (I : Inv X pins σ H s) (h : SqL X.K H a xs) (h' : SqL X.K H a ys) : xs = ys := by
  obtain ⟨its, r, ⟨o, n, e, _, _, d⟩, _⟩ := I.list h
  obtain ⟨its', r', ⟨o', n', e', _, _, d'⟩, _⟩ := I.list h'
  rw [e] at e'; cases e'
  rw [d] at d'
  injection d' with d1 _
  have : its = its' := by simpa using congrArg Array.toList d1
  subst this
  exact r.inj r'
end

/-! ### another wish about exceptions -/
abbrev Cx.wish (X : Cx) (E : Value → Shared → Prop) : Cx := { X with xe := E }
/-- no exception leaves -/
abbrev Cx.nox (X : Cx) : Cx := X.wish fun _ _ => False
theorem Cx.Ok.wish {X : Cx} (ok : X.Ok) (E : Value → Shared → Prop) : (X.wish E).Ok :=
  ⟨ok.mod, ok.kind, ok.glob, ok.blt, ok.above, ok.inj, ok.has, ok.cab, ok.hd, ok.frames, ok.stk, ok.exf, ok.bs, ok.bsz, ok.noex, ok.exfs, ok.funs, ok.frf⟩
theorem Cx.Ok.unwish {X : Cx} {E : Value → Shared → Prop} (ok : (X.wish E).Ok) : X.Ok :=
  ⟨ok.mod, ok.kind, ok.glob, ok.blt, ok.above, ok.inj, ok.has, ok.cab, ok.hd, ok.frames, ok.stk, ok.exf, ok.bs, ok.bsz, ok.noex, ok.exfs, ok.funs, ok.frf⟩
section
variable {X : Cx} {pins : List (Addr × Obj)} {σ : St} {H : Hp} {s : Shared} {E : Value → Shared → Prop}
theorem Inv.wish (I : Inv X pins σ H s) (E : Value → Shared → Prop) : Inv (X.wish E) pins σ H s := ⟨I.ok.wish E, I.os, I.bare, I.base, I.loc, I.cell, I.free, I.freeC, I.pin, I.hok, I.len⟩
theorem Inv.unwish (I : Inv (X.wish E) pins σ H s) : Inv X pins σ H s := ⟨I.ok.unwish, I.os, I.bare, I.base, I.loc, I.cell, I.free, I.freeC, I.pin, I.hok, I.len⟩
theorem SP.unwish {D : Ends} {f : Flow} {s' : Shared} (h : SP (X.wish E) pins D f s') : SP X pins D f s' := by
  cases f with
  | next => obtain ⟨σ', H', I, q⟩ := h; exact ⟨σ', H', I.unwish, q⟩
  | brk => obtain ⟨σ', H', I, q⟩ := h; exact ⟨σ', H', I.unwish, q⟩
  | cont => obtain ⟨σ', H', I, q⟩ := h; exact ⟨σ', H', I.unwish, q⟩
  | ret u => obtain ⟨v, σ', H', I, r, q⟩ := h; exact ⟨v, σ', H', I.unwish, r, q⟩
theorem PSs.nox {st : List Stmt} {t : TS} (h : PSs X.nox st t) : PSs X st t := fun pins s σ H D I hw =>
  wpAny_mono (h pins s σ H D (I.wish _) hw) (fun _ _ q => q.unwish) fun _ _ z => False.elim z
end

/-! ### blocks and small statements -/
section
variable {X : Cx} {st : Stmt} {rest : List Stmt} {t u : TS} {e : Expr} {te : TE} {pos : Pos}
def tNext : TS := fun D σ H => D.nx σ H
def tSeq (t u : TS) : TS := fun D σ H => t { D with nx := u D } σ H
theorem pss_nil : PSs X [] tNext := fun _ _ σ H _ I h => wpAny_execs_nil ⟨σ, H, I, h⟩
theorem pss_cons (h1 : PS X st t) (h2 : PSs X rest u) : PSs X (st :: rest) (tSeq t u) := by
  intro pins s σ H D I h
  refine wpAny_execs_cons (thn (h1 pins s σ H { D with nx := u D } I h) fun f s1 q => ?_)
  cases f with
  | next =>
    obtain ⟨σ', H', I', q⟩ := q
    exact h2 pins s1 σ' H' D I' q
  | ret v => exact q
  | brk => exact q
  | cont => exact q
theorem pss_one (h1 : PS X st t) : PSs X [st] t := by
  intro pins s σ H D I h
  refine wpAny_execs_cons (thn (h1 pins s σ H D I h) fun f s1 q => ?_)
  cases f with
  | next => exact wpAny_execs_nil q
  | ret v => exact q
  | brk => exact q
  | cont => exact q
def tBreak : TS := fun D σ H => D.bk σ H
def tCont : TS := fun D σ H => D.ct σ H
/-- in a def's body nothing is shown -/
theorem Inv.quiet {pins : List (Addr × Obj)} {σ : St} {H : Hp} {s : Shared} (I : Inv X pins σ H s) : interactive X.env = false := by simp [interactive, I.ok.kind]
/-- an expression whose value is dropped -/
def tDrop (te : TE) : TS := fun D σ H => te σ H fun _ H1 => D.nx σ H1
theorem ps_expr (he : PE X e te) (hs : swapsWith e none pos.line X.env = pure false := by rfl) : PS X (.Expr e pos) (tDrop te) := by
  intro pins s σ H D I h
  exact wpAny_Expr_any (thn (he pins s σ H _ I h) fun v s1 ⟨x, H1, I1, r1, q1⟩ => ⟨σ, H1, I1, q1⟩) I.quiet hs
def tRet (te : TE) : TS := fun D σ H => te σ H D.rt
theorem ps_ret (he : PE X e te) : PS X (.Return (some e) pos) (tRet te) := by
  intro pins s σ H D I h
  exact wpAny_Return_some (thn (he pins s σ H _ I h) fun v s1 ⟨x, H1, I1, r1, q1⟩ => ⟨x, σ, H1, I1, r1, q1⟩)
def tRetN : TS := fun D _ H => D.rt .non H
def tIfS (c : TT) (t u : TS) : TS := fun D σ H => c σ H fun b H1 => if b = true then t D σ H1 else u D σ H1
theorem ps_if {c : Expr} {a b : List Stmt} {tc : TT} (hc : PT X c tc) (ha : PSs X a t) (hb : PSs X b u) : PS X (.If c a b pos) (tIfS tc t u) := by
  intro pins s σ H D I h
  refine wpAny_If (thn (hc pins s σ H _ I h) fun d s1 ⟨H1, I1, q1⟩ => ?_)
  cases d with
  | true => exact ha pins s1 σ H1 D I1 q1
  | false => exact hb pins s1 σ H1 D I1 q1
/-- code that the proof never comes to -/
def tNever : TS := fun _ _ _ => False
theorem pss_never {sts : List Stmt} : PSs X sts tNever := fun _ _ _ _ _ _ h => h.elim
end

/-! ### targets -/
abbrev TG := V → St → Hp → (St → Hp → Prop) → Prop
abbrev TGs := List V → St → Hp → (St → Hp → Prop) → Prop
def PG (X : Cx) (target : Expr) (t : TG) : Prop :=
  ∀ (pins : List (Addr × Obj)) (s : Shared) (σ : St) (H : Hp) (v : V) (u : Value) (Q : St → Hp → Prop), Inv X pins σ H s → RelV v u → t v σ H Q →
    wpAny (model X.prog X.w) X.A (assign target X.env u) (fun _ s' => ∃ σ' H', Inv X pins σ' H' s' ∧ Q σ' H') X.xe s
/-- several targets, one after another -/
def PGs (X : Cx) (ts : List Expr) (t : TGs) : Prop :=
  ∀ (pins : List (Addr × Obj)) (s : Shared) (σ : St) (H : Hp) (vs : List V) (us : List Value) (Q : St → Hp → Prop), Inv X pins σ H s → Vals vs us → t vs σ H Q →
    wpAny (model X.prog X.w) X.A (assignInOrder ((assignEach ts X.env).map (·.2)) us) (fun _ s' => ∃ σ' H', Inv X pins σ' H' s' ∧ Q σ' H') X.xe s
/-- o[i] = v, by values -/
abbrev TSet := V → V → V → Hp → (Hp → Prop) → Prop
def PSet (X : Cx) (t : TSet) : Prop :=
  ∀ (pins : List (Addr × Obj)) (s : Shared) (σ : St) (H : Hp) (o i v : V) (ov iv u : Value) (Q : Hp → Prop), Inv X pins σ H s → RelV o ov → RelV i iv → RelV v u → t o i v H Q →
    wpAny (model X.prog X.w) X.A (setItem ov iv u) (fun _ s' => ∃ H', Inv X pins σ H' s' ∧ Q H') X.xe s
/-- a op= b, by values -/
abbrev TIp := V → V → Hp → VK → Prop
def PIp (X : Cx) (op : Operator) (t : TIp) : Prop :=
  ∀ (pins : List (Addr × Obj)) (s : Shared) (σ : St) (H : Hp) (x y : V) (v u : Value) (Q : VK), Inv X pins σ H s → RelV x v → RelV y u → t x y H Q →
    wpAny (model X.prog X.w) X.A (inplaceOp op v u) (EP X pins σ Q) X.xe s
section
variable {X : Cx} {pos : Pos}
def gName (i : Nat) : TG := fun v σ H Q => Q (σ.set i (some v)) H
theorem pg_name {i : Nat} {x : Str} (hN : X.N.Nodup) (hi : X.N[i]? = some x) (hx : Loc X.env.scope x) (hf : X.fn x = true ∨ X.env.scope.names.lookup x = some .local := by first | exact .inl rfl | exact .inr rfl | assumption) : PG X (.Name x pos) (gName i) := by
  intro pins s σ H v u Q I r h
  exact wpAny_assign_Name (store_ok I hN hi hx r (fun s' I' => ⟨_, H, I', h⟩) hf)
def gNil : TGs := fun vs σ H Q => vs = [] ∧ Q σ H
def gCons (t : TG) (u : TGs) : TGs := fun vs σ H Q => ∃ v r, vs = v :: r ∧ t v σ H fun σ' H' => u r σ' H' Q
theorem pgs_nil : PGs X [] gNil := by
  intro pins s σ H vs us Q I r h
  obtain ⟨e, h⟩ := h
  subst e
  cases r
  exact assignInOrder_nil ⟨σ, H, I, h⟩
theorem pgs_cons {e : Expr} {es : List Expr} {t : TG} {u : TGs} (h1 : PG X e t) (h2 : PGs X es u)
    (hs : (assignEach (e :: es) X.env).map (·.2) = assign e X.env :: (assignEach es X.env).map (·.2) := by rfl) : PGs X (e :: es) (gCons t u) := by
  intro pins s σ H vs us Q I r h
  obtain ⟨v, vr, e1, h⟩ := h
  subst e1
  cases r with
  | cons r rr =>
    rw [hs]
    refine assignInOrder_cons (thn (h1 pins s σ H _ _ _ I r h) fun _ s1 ⟨σ1, H1, I1, q1⟩ => ?_)
    exact h2 pins s1 σ1 H1 _ _ Q I1 rr q1
/-- (a, b, ..) = a tuple of that length -/
def gTup (K : PySem.W.Frag) (n : Nat) (t : TGs) : TG := fun v σ H Q => ∃ a xs, v = .ref a ∧ SqT K H a xs ∧ xs.length = n ∧ t xs σ H Q
theorem pg_tup {es : List Expr} {k : Nat} {t : TGs} {n : Nat} (hc : X.calm = true) (h : PGs X es t)
    (hn : (assignEach es X.env).length = n := by rfl) (hst : (assignEach es X.env).findIdx? (·.1) = none := by rfl) : PG X (.Tuple es k pos) (gTup X.K n t) := by
  intro pins s σ H v u Q I r hw
  obtain ⟨a, xs, e1, hq, hl, hw⟩ := hw
  subst e1
  cases r
  obtain ⟨its, rv, ht, hz⟩ := I.tuple hq
  refine assign_Tuple_tuple (I.ok.hd hc) ht (by simp [hn, ← hl, rv.length]) hst fun h' hx => ?_
  have I1 : Inv X pins σ H { s with heap := h' } := I.kept (t' := s.toks) fun b o e => hx b o (Nat.ne_of_lt (Heap.lt_size e)) e
  exact h pins _ σ H xs _ Q I1 (by simpa using rv) hw
/-- o[i] = .. -/
def gSub (to ti : TE) (t : TSet) : TG := fun v σ H Q => to σ H fun o H1 => ti σ H1 fun i H2 => t o i v H2 fun H3 => Q σ H3
theorem pg_sub {o i : Expr} {to ti : TE} {t : TSet} (ho : PE X o to) (hi : PE X i ti) (hs : PSet X t)
    (ha : ∀ v, assign (.Subscript o i pos) X.env v = (do
      let ov ← holding [v] (eval o X.env)
      let iv ← holding [v, ov] (eval i X.env)
      standAt pos
      holding [v, ov, iv] (setItem ov iv v)
      release [v, ov, iv] []) := by intro _; rfl) : PG X (.Subscript o i pos) (gSub to ti t) := by
  intro pins s σ H v u Q I r h
  rw [ha]
  refine wpAny_bind (wpAny_holding (thn (ho pins s σ H _ I h) fun ov s1 ⟨x, H1, I1, r1, q1⟩ => ?_))
  refine wpAny_bind (wpAny_holding (thn (hi pins s1 σ H1 _ I1 q1) fun iv s2 ⟨y, H2, I2, r2, q2⟩ => ?_))
  refine wpAny_bind (wpAny_standAt (wpAny_bind (wpAny_holding (thn (hs pins s2 σ H2 x y v ov iv u _ I2 r1 r2 r q2) fun _ s3 ⟨H3, I3, q3⟩ => ?_))))
  exact wpAny_release ⟨σ, H3, I3, q3⟩
/-- target = value -/
def tAsg (te : TE) (g : TG) : TS := fun D σ H => te σ H fun x H1 => g x σ H1 D.nx
theorem ps_asg {tg e : Expr} {te : TE} {g : TG} (he : PE X e te) (hg : PG X tg g) (hs : swapsWithSole [tg] e pos.line X.env = pure false := by rfl) (hw : swappedStores [tg] e X.env = pure none := by rfl)
    (h1 : (assignEach [tg] X.env).map (·.2) = [assign tg X.env] := by rfl) : PS X (.Assign [tg] e pos) (tAsg te g) := by
  intro pins s σ H D I h
  refine wpAny_Assign_stores (thn (he pins s σ H _ I h) fun v s1 ⟨x, H1, I1, r1, q1⟩ => ?_) hs hw
  rw [h1]
  exact thn (hg pins s1 σ H1 x v _ I1 r1 q1) fun _ s2 q => q
/-- name = value -/
theorem ps_set {i : Nat} {x : Str} {e : Expr} {te : TE} {pos' : Pos} (hN : X.N.Nodup) (hi : X.N[i]? = some x) (hx : Loc X.env.scope x) (he : PE X e te) (hs : swapsWith e (some (.Name x pos')) pos.line X.env = pure false := by rfl) (hf : X.fn x = true ∨ X.env.scope.names.lookup x = some .local := by first | exact .inl rfl | exact .inr rfl | assumption) :
    PS X (.Assign [.Name x pos'] e pos) (tAsg te (gName i)) := by
  intro pins s σ H D I h
  refine wpAny_Assign_Name (thn (he pins s σ H _ I h) fun v s1 ⟨y, H1, I1, r1, q1⟩ => ?_) hs
  exact store_ok I1 hN hi hx r1 (fun s2 I2 => ⟨_, H1, I2, q1⟩) hf
/-- a, b = x, y with plain local names: stored from the right; the pair itself is not tracked (the opening rows as in PyProof/Rows/TupAssign.lean:23) -/
def tPar (i j : Nat) (ta : TA) : TS := fun D σ H => ta σ H fun vs H1 => ∃ v w, vs = [v, w] ∧ D.nx ((σ.set i (some v)).set j (some w)) H1
/-- name op= e -/
def tAug (i : Nat) (te : TE) (ti : TIp) : TS := fun D σ H => ∃ x, σ[i]? = some (some x) ∧ te σ H fun y H1 => ti x y H1 fun z H2 => D.nx (σ.set i (some z)) H2
theorem ps_aug {i : Nat} {x : Str} {e : Expr} {te : TE} {op : Operator} {ti : TIp} {pos' : Pos} (hN : X.N.Nodup) (hi : X.N[i]? = some x) (hx : Loc X.env.scope x) (he : PE X e te) (ho : PIp X op ti) (hf : X.fn x = true ∨ X.env.scope.names.lookup x = some .local := by first | exact .inl rfl | exact .inr rfl | assumption) :
    PS X (.AugAssign (.Name x pos') op e pos) (tAug i te ti) := by
  intro pins s σ H D I h
  obtain ⟨v, e1, h⟩ := h
  obtain ⟨m, hn, hl⟩ := I.loc
  have vis : Vis X.env.scope x := by rcases hx with k | k; exact .inl k; exact .inr (.inl k)
  obtain ⟨u, r, l⟩ := hl i x v hi e1 vis
  refine wpAny_AugAssign_Name ?_
  have go : wpAny (model X.prog X.w) X.A (eval e X.env) (fun w s₂ => wpAny (model X.prog X.w) X.A (inplaceOp op u w) (fun r s₃ => wpAny (model X.prog X.w) X.A (storeName X.env x r) (fun _ => SP X pins D .next) X.xe s₃) X.xe s₂) X.xe s := by
    refine thn (he pins s σ H _ I h) fun w s1 ⟨y, H1, I1, r1, q1⟩ => ?_
    refine thn (ho pins s1 σ H1 v y u w _ I1 r r1 q1) fun z s2 ⟨zv, H2, I2, r2, q2⟩ => ?_
    exact store_ok I2 hN hi hx r2 (fun s3 I3 => ⟨_, H2, I3, q2⟩) hf
  rcases l with ⟨hk, hm⟩ | ⟨hk, c, hc, hcell⟩
  · exact wpAny_loadName_local I.ok.kind hk hn hm go
  · rcases hk with hk | hk
    · exact wpAny_loadName_cell I.ok.kind hk hc hcell go
    · rcases hx with k | k
      · have : X.env.scope.names.lookup x = some .free := hk
        rw [k] at this; cases this
      · have : X.env.scope.names.lookup x = some .free := hk
        rw [k] at this; cases this
/-- o[i] op= e -/
def tAugS (to ti te : TE) (tget : V → V → Hp → VK → Prop) (tip : TIp) (tset : TSet) : TS := fun D σ H => to σ H fun o H1 => ti σ H1 fun i H2 => tget o i H2 fun x H3 => te σ H3 fun y H4 => tip x y H4 fun z H5 => tset o i z H5 fun H6 => D.nx σ H6
/-- o[i], by values -/
def PGet (X : Cx) (t : V → V → Hp → VK → Prop) : Prop :=
  ∀ (pins : List (Addr × Obj)) (s : Shared) (σ : St) (H : Hp) (o i : V) (ov iv : Value) (Q : VK), Inv X pins σ H s → RelV o ov → RelV i iv → t o i H Q →
    wpAny (model X.prog X.w) X.A (getItem ov iv) (EP X pins σ Q) X.xe s
/-- ints -/
def ipI (f : Int → Int → Int) : TIp := fun x y H Q => ∃ i j, x = .int i ∧ y = .int j ∧ Q (.int (f i j)) H
theorem ip_add : PIp X .Add (ipI fun i j => i + j) := by
  intro pins s σ H x y v u Q I r1 r2 h
  obtain ⟨i, j, e1, e2, q⟩ := h
  subst e1; subst e2
  obtain ⟨t, rfl⟩ := r1
  obtain ⟨t', rfl⟩ := r2
  exact iadd_int ⟨.int _, H, I.tok _, ⟨_, rfl⟩, q⟩
end

/-! ### while -/
section
variable {X : Cx} {pos : Pos}
/-- the invariant W with its measure -/
def tWhile (c : TT) (tb : TS) : TS := fun D σ H => ∃ W : Nat → St → Hp → Prop, (∃ m, W m σ H) ∧ ∀ m σ H, W m σ H →
  c σ H fun b H1 => if b = true then ∃ N : St → Hp → Prop, (∀ σ' H', N σ' H' → ∃ m', m' < m ∧ W m' σ' H') ∧ tb { D with nx := N, ct := N, bk := D.nx } σ H1 else D.nx σ H1
theorem ps_while {c : Expr} {body : List Stmt} {tc : TT} {tb : TS} (hp : PassesOwn (model X.prog X.w) X.A X.env X.xe) (hc : PT X c tc) (hb : PSs X body tb) : PS X (.While c body [] pos) (tWhile tc tb) := by
  intro pins s σ H D I h
  obtain ⟨W, ⟨m0, w0⟩, turn⟩ := h
  refine wpAny_While (codeAny_whileLoop (fun n s' => ∃ σ' H', Inv X pins σ' H' s' ∧ W n σ' H') ?_ m0 ⟨σ, H, I, w0⟩)
  rintro n s1 ⟨σ1, H1, I1, w1⟩
  refine wpAny_passesOwn hp (thn (hc pins s1 σ1 H1 _ I1 (turn n σ1 H1 w1)) fun b s2 ⟨H2, I2, q2⟩ => ?_)
  cases b with
  | true =>
    obtain ⟨N, hN, q2⟩ := q2
    rw [if_pos rfl]
    refine wpAny_passesOwn hp (thn (hb pins s2 σ1 H2 _ I2 q2) fun f s3 q3 => ?_)
    cases f with
    | next =>
      obtain ⟨σ3, H3, I3, n3⟩ := q3
      obtain ⟨m', hm, w3⟩ := hN σ3 H3 n3
      exact ⟨m', hm, σ3, H3, I3, w3⟩
    | cont =>
      obtain ⟨σ3, H3, I3, n3⟩ := q3
      obtain ⟨m', hm, w3⟩ := hN σ3 H3 n3
      exact ⟨m', hm, σ3, H3, I3, w3⟩
    | brk => exact q3
    | ret v => exact q3
  | false =>
    rw [if_neg Bool.false_ne_true]
    exact wpAny_execs_nil ⟨σ1, H2, I2, q2⟩
end

/-! ### what a loop or a comprehension walks -/
/-- at turn i: it yields x (the heap may grow), or it stops -/
structure It where
  go : Nat → Hp → Prop
  yld : Nat → Hp → V → Hp → Prop
  stop : Nat → Hp → Prop
/-- the iterator's own objects may turn: they are not the frame's, not pinned, younger than the entry (or a comprehension's own) -/
def FpOk (X : Cx) (pins : List (Addr × Obj)) (H : Hp) (b : Addr) : Prop :=
  H b = none ∧ b ≠ X.env.locals ∧ b ∉ X.fs ∧ (b ∈ X.ex ∨ X.s₀.heap.objs.size ≤ b) ∧ (∀ x c, X.env.cells.lookup x = some c → c ≠ b) ∧ ∀ p ∈ X.pn ++ pins, p.1 ≠ b
theorem Inv.fpOk {X : Cx} {pins : List (Addr × Obj)} {σ : St} {H H' : Hp} {s : Shared} {b : Addr} (I : Inv X pins σ H s) (hb : s.heap.objs.size ≤ b) (hn : H' b = none) : FpOk X pins H' b := by
  refine ⟨hn, Nat.ne_of_gt (Nat.lt_of_lt_of_le I.lt hb), I.nofs hb, .inr (Nat.le_trans I.sz hb), fun x c e z => ?_, fun p hp z => ?_⟩
  · obtain ⟨v, q⟩ := I.cell x c e
    exact absurd (Nat.lt_of_lt_of_le q.lt (by rw [z]; exact hb)) (Nat.lt_irrefl _)
  · exact absurd (Nat.lt_of_lt_of_le (Heap.lt_size (I.pin p hp).1) (by rw [z]; exact hb)) (Nat.lt_irrefl _)
structure Turn (P : Program) (w : World) (K : PySem.W.Frag) (tg : Expr) (J : It) (fp : List Addr) (it : Addr) (tn : Nat → Heap → Prop) : Prop where
  mem : it ∈ fp
  obj : ∀ i h, tn i h → ∀ b ∈ fp, ∃ o, h.get? b = some o ∧ ∀ v, o.data ≠ .cell v
  keep : ∀ i h h', tn i h → (∀ b ∈ fp, ∀ o, h.get? b = some o → h'.get? b = some o) → tn i h'
  item : ∀ (X : Cx), X.prog = P → X.w = w → X.K = K → X.calm = true → ∀ (i : Nat) (pins : List (Addr × Obj)) (s : Shared) (σ : St) (H : Hp) (E : Value → Shared → Prop), Inv X pins σ H s → (∀ b ∈ fp, FpOk X pins H b) → tn i s.heap → J.go i H →
    wpAny (model P w) X.A (pyNext (.ref it)) (fun r s1 => ∃ u, r = some u ∧
      wpAny (model P w) X.A (letOwnedTupleGo tg (.ref it) u) (fun _ s2 => ∃ x H', Inv X pins σ H' s2 ∧ RelV x u ∧ J.yld i H x H' ∧ tn (i + 1) s2.heap ∧ ∀ b ∈ fp, H' b = none) E s1) E s
  done : ∀ (X : Cx), X.prog = P → X.w = w → X.K = K → X.calm = true → ∀ (i : Nat) (pins : List (Addr × Obj)) (s : Shared) (σ : St) (H : Hp) (E : Value → Shared → Prop), Inv X pins σ H s → (∀ b ∈ fp, FpOk X pins H b) → tn i s.heap → J.stop i H →
    wpAny (model P w) X.A (pyNext (.ref it)) (fun r s1 => r = none ∧ Inv X pins σ H s1) E s
  self : ∀ (A : Around) (i : Nat) (s : Shared) (Q : Value → Shared → Prop) (E : Value → Shared → Prop), tn i s.heap → Q (.ref it) s → wpAny (model P w) A (pyIter (.ref it)) Q E s
abbrev TI := St → Hp → (It → Hp → Prop) → Prop
/-- an iterator has come -/
def PIE (X : Cx) (pins : List (Addr × Obj)) (σ : St) (tg : Expr) (R : It → Hp → Prop) (itv : Value) (s2 : Shared) : Prop :=
  ∃ (it : Addr) (fp : List Addr) (tn : Nat → Heap → Prop) (J : It) (H' : Hp), itv = .ref it ∧ Inv X pins σ H' s2 ∧ Turn X.prog X.w X.K tg J fp it tn ∧ tn 0 s2.heap ∧ (∀ b ∈ fp, FpOk X pins H' b) ∧ R J H'
def PI (X : Cx) (tg iter : Expr) (wi : TI) : Prop :=
  ∀ (pins : List (Addr × Obj)) (s : Shared) (σ : St) (H : Hp) (R : It → Hp → Prop), Inv X pins σ H s → wi σ H R →
    wpAny (model X.prog X.w) X.A (eval iter X.env) (fun v s1 => wpAny (model X.prog X.w) X.A (pyIter v) (PIE X pins σ tg R) X.xe s1) X.xe s

/-- the step ahead of the store is nothing for an iterator that keeps no tuple -/
theorem go_of {M : Model} {A : Around} {E : Value → Shared → Prop} {s : Shared} {tg : Expr} {it : Addr} {u : Value} {o : Obj} {n : String} {vs : Array Value} {Q : Unit → Shared → Prop} (ho : s.heap.get? it = some o) (hc : o.cls = .type n) (hd : o.data = .fields vs)
    (hn : ["enumerate", "zip", "dict_itemiterator", "dict_reverseitemiterator", "odict_iterator", "itertools.zip_longest", "itertools.pairwise"].contains n = false) (hQ : Q () s) : wpAny M A (letOwnedTupleGo tg (.ref it) u) Q E s := by
  unfold letOwnedTupleGo
  cases tg <;> first
    | exact wpAny_pure hQ
    | (cases u <;> first
        | exact wpAny_pure hQ
        | (refine wpAny_bind (wpAny_load ho ?_)
           rw [hc, hd]
           show wpAny M A (if (["enumerate", "zip", "dict_itemiterator", "dict_reverseitemiterator", "odict_iterator", "itertools.zip_longest", "itertools.pairwise"].contains n && vs[0]? == some (rawInt _)) = true then _ else _) Q E s
           rw [if_neg (by intro h; rw [hn, Bool.false_and] at h; cases h)]
           exact wpAny_pure hQ))

/-- the list at a, as it stands at each turn (a loop may append to it) -/
def Itl (K : PySem.W.Frag) (a : Addr) : It :=
  ⟨fun i H => ∃ xs x, SqL K H a xs ∧ xs[i]? = some x, fun i H x H' => H' = H ∧ ∀ xs, SqL K H a xs → xs[i]? = some x, fun i H => ∃ xs, SqL K H a xs ∧ xs.length ≤ i⟩
def Itt (K : PySem.W.Frag) (a : Addr) : It :=
  ⟨fun i H => ∃ xs x, SqT K H a xs ∧ xs[i]? = some x, fun i H x H' => H' = H ∧ ∀ xs, SqT K H a xs → xs[i]? = some x, fun i H => ∃ xs, SqT K H a xs ∧ xs.length ≤ i⟩
/-- lo, lo + 1, .. (n of them) -/
def Itr (lo : Int) (n : Nat) : It := ⟨fun i _ => i < n, fun i H x H' => H' = H ∧ x = .int (lo + i), fun i _ => n ≤ i⟩
theorem turn_list {P : Program} {w : World} {K : PySem.W.Frag} {tg : Expr} (a it : Addr) : Turn P w K tg (Itl K a) [it] it (fun i h => h.IsListIter it a i) where
  mem := by simp
  obj := fun i h st b hb => by
    have e : b = it := by simpa using hb
    subst e
    obtain ⟨o, e, c, d⟩ := st
    exact ⟨o, e, fun v z => by rw [d] at z; cases z⟩
  keep := fun i h h' st k => st.at fun o e => k it (by simp) o e
  item := by
    intro X hP hw hK hc i pins s σ H E I hf st hg
    subst hP hw hK
    obtain ⟨xs, x, hq, hx⟩ := hg
    obtain ⟨its, rv, p, hz⟩ := I.list hq
    obtain ⟨u, hu, ru⟩ := rv.get hx
    obtain ⟨f0, f1, f2, f3, f4, f5⟩ := hf it (by simp)
    refine wpAny_pyNext_list_item st p.isList (x := u) (by simpa using hu) fun h' st' sb => ?_
    have I1 : Inv X pins σ H { s with heap := h' } := I.turned (t' := s.toks) (fun b o hb e => (sb.2 b hb).trans e) f0 f1 f3 f4 f5
    obtain ⟨o, e, c, d⟩ := id st'
    exact ⟨u, rfl, go_of (s := { s with heap := h' }) e c d (by decide) ⟨x, H, I1, ru, ⟨rfl, fun ys hy => by rw [I.list_inj hy hq]; exact hx⟩, st', fun b hb => (hf b hb).1⟩⟩
  done := by
    intro X hP hw hK hc i pins s σ H E I hf st hg
    subst hP hw hK
    obtain ⟨xs, hq, hx⟩ := hg
    obtain ⟨its, rv, p, hz⟩ := I.list hq
    obtain ⟨f0, f1, f2, f3, f4, f5⟩ := hf it (by simp)
    have hl := rv.length
    exact wpAny_pyNext_list_end (I.ok.hd hc) st p.isList (by simp; omega) fun h' eb => ⟨rfl, I.turned (t' := s.toks) (fun b o hb e => eb b o hb e) f0 f1 f3 f4 f5⟩
  self := fun _ _ _ _ _ st h => wpAny_pyIter_listiter st h
theorem turn_range {P : Program} {w : World} {K : PySem.W.Frag} {tg : Expr} (it : Addr) (lo : Int) (n : Nat) : Turn P w K tg (Itr lo n) [it] it (fun i h => IsRangeIter h it (lo + (i : Nat) * 1) ((n : Int) - (i : Nat)) 1) where
  mem := by simp
  obj := fun i h st b hb => by
    have e : b = it := by simpa using hb
    subst e
    exact ⟨_, st, fun v z => by
      have z' : Data.fields _ = Data.cell v := z
      cases z'⟩
  keep := fun i h h' st k => k it (by simp) _ st
  item := by
    intro X hP hw hK hc i pins s σ H E I hf st hg
    subst hP hw hK
    obtain ⟨f0, f1, f2, f3, f4, f5⟩ := hf it (by simp)
    have W := Walks.range (prog := X.prog) (w := X.w) (I.ok.hd hc) it lo 1 n
    refine W.item i s _ _ hg st fun v h' tk hv st' kk => ?_
    obtain ⟨t, rfl⟩ := hv
    have I1 : Inv X pins σ H { s with heap := h', toks := tk } := I.turned (fun b o hb e => kk b o (by simpa using hb) e) f0 f1 f3 f4 f5
    refine ⟨_, rfl, go_of (s := { s with heap := h', toks := tk }) (n := "range_iterator") st' rfl rfl (by decide) ⟨.int (lo + i), H, I1, ⟨t, ?_⟩, ⟨rfl, rfl⟩, st', fun b hb => (hf b hb).1⟩⟩
    rw [Int.mul_one]
  done := by
    intro X hP hw hK hc i pins s σ H E I hf st hg
    subst hP hw hK
    obtain ⟨f0, f1, f2, f3, f4, f5⟩ := hf it (by simp)
    exact wpAny_pyNext_range_end (I.ok.hd hc) st (by have : n ≤ i := hg; omega) fun h' eb => ⟨rfl, I.turned (t' := s.toks) (fun b o hb e => eb b o hb e) f0 f1 f3 f4 f5⟩
  self := fun _ _ _ _ _ st h => wpAny_pyIter_rangeiter st h
end L2

namespace L2
open PySem PySem.Spec PyProof.Rows
section
variable {X : Cx} {tg : Expr}
def iList (K : PySem.W.Frag) (tl : TE) : TI := fun σ H R => tl σ H fun x H1 => ∃ a, x = .ref a ∧ (∃ xs, SqL K H1 a xs) ∧ R (Itl K a) H1
def iTup (K : PySem.W.Frag) (tl : TE) : TI := fun σ H R => tl σ H fun x H1 => ∃ a, x = .ref a ∧ (∃ xs, SqT K H1 a xs) ∧ R (Itt K a) H1
theorem pi_list {l : Expr} {tl : TE} (hl : PE X l tl) : PI X tg l (iList X.K tl) := by
  intro pins s σ H R I h
  refine thn (hl pins s σ H _ I h) fun v s1 ⟨x, H1, I1, r1, q1⟩ => ?_
  obtain ⟨a, e, ⟨xs, hq⟩, q⟩ := q1
  subst e
  cases r1
  obtain ⟨its, rv, p, hz⟩ := I1.list hq
  refine wpAny_pyIter_list p.isList ?_
  refine ⟨s1.heap.objs.size, [s1.heap.objs.size], _, _, H1, rfl, I1.kept (t' := s1.toks) fun b o e => Heap.get?_push_of_some _ e, turn_list a _, ⟨_, Heap.get?_push_size _ rfl, rfl, rfl⟩, fun b hb => ?_, q⟩
  have e : b = s1.heap.objs.size := by simpa using hb
  subst e
  exact I1.fpOk (Nat.le_refl _) (I1.hok.fresh (Nat.le_refl _))
/-- a range object just made, walked -/
theorem range_it {pins : List (Addr × Obj)} {σ : St} {H : Hp} {s : Shared} {R : It → Hp → Prop} {E : Value → Shared → Prop} {lo hi : Int} {t u v : Tok} {tk : Nat} (I : Inv X pins σ H s) (h1 : -(2 ^ 62) ≤ lo) (h2 : lo < 2 ^ 62) (h3 : -(2 ^ 62) ≤ hi) (h4 : hi < 2 ^ 62)
    (q : R (Itr lo (hi - lo).toNat) H) : wpAny (model X.prog X.w) X.A (pyIter (.ref s.heap.objs.size)) (PIE X pins σ tg R) E { s with heap := s.heap.push { cls := .type "range", data := .fields #[.int lo t, .int hi u, .int 1 v] }, toks := tk } := by
  refine wpAny_pyIter_range (IsRange.new ..) (small_one h1 h2 h3 h4) ?_
  have I1 : Inv X pins σ H { s with heap := s.heap.push { cls := .type "range", data := .fields #[.int lo t, .int hi u, .int 1 v] }, toks := tk } := I.kept fun b o e => Heap.get?_push_of_some _ e
  refine ⟨(s.heap.push { cls := .type "range", data := .fields #[.int lo t, .int hi u, .int 1 v] }).objs.size, [(s.heap.push { cls := .type "range", data := .fields #[.int lo t, .int hi u, .int 1 v] }).objs.size], _, _, H, rfl,
    I1.kept (t' := tk) fun b o e => Heap.get?_push_of_some _ e, turn_range _ lo (hi - lo).toNat, ?_, fun b hb => ?_, q⟩
  · have e1 : lo + ((0 : Nat) : Int) * 1 = lo := by simp
    have e2 : (((hi - lo).toNat : Nat) : Int) - ((0 : Nat) : Int) = Builtin.Range.rangeSize lo hi 1 := by rw [rangeSize_one]; split <;> omega
    show IsRangeIter _ _ (lo + ((0 : Nat) : Int) * 1) ((((hi - lo).toNat : Nat) : Int) - ((0 : Nat) : Int)) 1
    rw [e1, e2]
    exact Heap.get?_push_size _ rfl
  · have e : b = (s.heap.push { cls := .type "range", data := .fields #[.int lo t, .int hi u, .int 1 v] }).objs.size := by simpa using hb
    subst e
    exact I1.fpOk (Nat.le_refl _) (I1.hok.fresh (Nat.le_refl _))
def iRng1 (ta : TA) : TI := fun σ H R => ta σ H fun vs H1 => ∃ j : Int, vs = [.int j] ∧ -(2 ^ 62) ≤ j ∧ j < 2 ^ 62 ∧ R (Itr 0 j.toNat) H1
def iRng2 (ta : TA) : TI := fun σ H R => ta σ H fun vs H1 => ∃ i j : Int, vs = [.int i, .int j] ∧ (-(2 ^ 62) ≤ i ∧ i < 2 ^ 62 ∧ -(2 ^ 62) ≤ j ∧ j < 2 ^ 62) ∧ R (Itr i (j - i).toNat) H1
theorem pi_range1 {a : Expr} {ta : TA} {p pos : Pos} (hg : Gl X "range") (hm : X.mg "range" = none) (ha : PA X [a] ta) (hs : starEach [a] X.env = [(false, eval a X.env)] := by rfl) : PI X tg (.Call (.Name "range" p) [a] [] pos) (iRng1 ta) := by
  intro pins s σ H R I h
  refine Call_ (ld_blt I hg hm boot_range (PyProof.Rows.callWith_type1 (thn (ha pos pins s σ H _ I h) fun us s1 ⟨vs, H1, I1, r1, q1⟩ => ?_) hs rfl))
  obtain ⟨j, e, q1, q2, q⟩ := q1
  subst e
  cases r1 with
  | cons r rr =>
    cases rr
    obtain ⟨t, rfl⟩ := r
    exact call_range_1 (range_it I1 (by omega) (by omega) q1 q2 (by simpa using q))
theorem pi_range2 {a b : Expr} {ta : TA} {p pos : Pos} (hg : Gl X "range") (hm : X.mg "range" = none) (ha : PA X [a, b] ta) (hs : starEach [a, b] X.env = [(false, eval a X.env), (false, eval b X.env)] := by rfl) (hs2 : starEach [b] X.env = [(false, eval b X.env)] := by rfl) :
    PI X tg (.Call (.Name "range" p) [a, b] [] pos) (iRng2 ta) := by
  intro pins s σ H R I h
  refine Call_ (ld_blt I hg hm boot_range (PyProof.Rows.callWith_type1 (thn (ha pos pins s σ H _ I h) fun us s1 ⟨vs, H1, I1, r1, q1⟩ => ?_) (by rw [hs, hs2]) (by rw [hs2]; rfl)))
  obtain ⟨i, j, e, ⟨q1, q2, q3, q4⟩, q⟩ := q1
  subst e
  cases r1 with
  | cons r rr =>
    cases rr with
    | cons r' rr =>
      cases rr
      obtain ⟨t, rfl⟩ := r
      obtain ⟨t', rfl⟩ := r'
      exact call_range_2 (range_it I1 q1 q2 q3 q4 q)

/-! ### for -/
/-- W: the invariant by the turn and a measure; N: what the body is to reach -/
def tFor (wi : TI) (g : TG) (tb : TS) : TS := fun D σ H => wi σ H fun J H1 => ∃ W : Nat → Nat → St → Hp → Prop, (∃ m, W 0 m σ H1) ∧ ∀ i m σ H, W i m σ H →
  (J.stop i H ∧ D.nx σ H) ∨ (J.go i H ∧ ∃ N : St → Hp → Prop, (∀ σ' H', N σ' H' → ∃ m', m' < m ∧ W (i + 1) m' σ' H') ∧ ∀ x H', J.yld i H x H' → g x σ H' fun σ2 H2 => tb { D with nx := N, ct := N, bk := D.nx } σ2 H2)
/-- the records at fp as they stand -/
def pinsAt (fp : List Addr) (h : Heap) : List (Addr × Obj) := fp.filterMap fun b => (h.get? b).map fun o => (b, o)
theorem mem_pinsAt {fp : List Addr} {h : Heap} {b : Addr} {o : Obj} (hb : b ∈ fp) (e : h.get? b = some o) : (b, o) ∈ pinsAt fp h := List.mem_filterMap.mpr ⟨b, hb, by rw [e]; rfl⟩
theorem of_pinsAt {fp : List Addr} {h : Heap} {p : Addr × Obj} (hp : p ∈ pinsAt fp h) : p.1 ∈ fp ∧ h.get? p.1 = some p.2 := by
  obtain ⟨b, hb, e⟩ := List.mem_filterMap.mp hp
  cases q : h.get? b with
  | none => rw [q] at e; cases e
  | some o =>
    rw [q] at e
    have e' : (b, o) = p := Option.some.inj e
    subst e'
    exact ⟨hb, q⟩
theorem Inv.pinned {pins : List (Addr × Obj)} {σ : St} {H : Hp} {s : Shared} {fp : List Addr} (I : Inv X pins σ H s) (hf : ∀ b ∈ fp, FpOk X pins H b) (ho : ∀ b ∈ fp, ∃ o, s.heap.get? b = some o ∧ ∀ v, o.data ≠ .cell v) : Inv X (pins ++ pinsAt fp s.heap) σ H s :=
  I.pins_of fun p hp => (List.mem_append.mp hp).elim (fun z => I.pin p (List.mem_append_right _ z)) fun z => by
    obtain ⟨hb, e⟩ := of_pinsAt z
    obtain ⟨f0, f1, f2, _⟩ := hf p.1 hb
    obtain ⟨o, e', d⟩ := ho p.1 hb
    rw [e] at e'; cases e'
    exact ⟨e, f0, f1, f2, d⟩
theorem Inv.unpinned {pins pl : List (Addr × Obj)} {σ : St} {H : Hp} {s : Shared} (I : Inv X (pins ++ pl) σ H s) : Inv X pins σ H s := I.pins_of fun p hp => I.pin p (List.mem_append_right _ (List.mem_append_left _ hp))
theorem ps_for {iter : Expr} {body : List Stmt} {wi : TI} {g : TG} {tb : TS} {pos : Pos} (hp : PassesOwn (model X.prog X.w) X.A X.env X.xe) (hc : X.calm = true) (hi : PI X tg iter wi) (hg : PG X tg g) (hb : PSs X body tb)
    (hs : ∀ x, foldedSetIterable iter X.env x = pure x := by intro _; rfl) : PS X (.For tg iter body [] pos) (tFor wi g tb) := by
  intro pins s σ H D I h
  refine wpAny_For (thn (hi pins s σ H _ I h) fun v s1 h1 => thn h1 fun itv s2 h2 => ?_) hs
  obtain ⟨it, fp, tn, J, H2, e, I2, T, st2, f2, W, ⟨m0, w0⟩, turn⟩ := h2
  subst e
  -- what stays true of the iterator's objects through the loop
  have stat : ∀ {H' : Hp}, (∀ b ∈ fp, H' b = none) → ∀ b ∈ fp, FpOk X pins H' b := fun hn b hb => ⟨hn b hb, (f2 b hb).2⟩
  refine codeAny_forLoop_any (fun n s' => ∃ i σ' H', Inv X pins σ' H' s' ∧ tn i s'.heap ∧ (∀ b ∈ fp, H' b = none) ∧ W i n σ' H') ?_ m0 ⟨0, σ, H2, I2, st2, fun b hb => (f2 b hb).1, w0⟩
  rintro n s3 ⟨i, σ3, H3, I3, st3, fr3, w3⟩
  rcases turn i n σ3 H3 w3 with ⟨stop, qn⟩ | ⟨go, N, hN, step⟩
  · refine wpAny_passesOwn hp (thn (T.done X rfl rfl rfl hc i pins s3 σ3 H3 X.xe I3 (stat fr3) st3 stop) fun r s4 ⟨hr, I4⟩ => ?_)
    subst hr
    exact wpAny_execs_nil ⟨σ3, H3, I4, qn⟩
  · refine wpAny_passesOwn hp (thn (T.item X rfl rfl rfl hc i pins s3 σ3 H3 X.xe I3 (stat fr3) st3 go) fun r s4 ⟨u, hr, h4⟩ => ?_)
    subst hr
    refine wpAny_passesOwn hp (thn h4 fun _ s5 ⟨x, H5, I5, r5, y5, st5, fr5⟩ => ?_)
    have I5' := I5.pinned (stat fr5) (T.obj _ _ st5)
    refine wpAny_passesOwn hp (thn (hg _ s5 σ3 H5 x u _ I5' r5 (step x H5 y5)) fun _ s6 ⟨σ6, H6, I6, q6⟩ => ?_)
    refine wpAny_passesOwn hp (thn (hb _ s6 σ6 H6 _ I6 q6) fun f s7 q7 => ?_)
    have again : ∀ {σ7 : St} {H7 : Hp}, Inv X (pins ++ pinsAt fp s5.heap) σ7 H7 s7 → N σ7 H7 → ∃ m, m < n ∧ ∃ i σ' H', Inv X pins σ' H' s7 ∧ tn i s7.heap ∧ (∀ b ∈ fp, H' b = none) ∧ W i m σ' H' := fun {σ7 H7} I7 n7 => by
      obtain ⟨m', hm, w7⟩ := hN σ7 H7 n7
      refine ⟨m', hm, i + 1, σ7, H7, I7.unpinned, T.keep _ _ _ st5 fun b hb o e => (I7.pin (b, o) (List.mem_append_right _ (List.mem_append_right _ (mem_pinsAt hb e)))).1, fun b hb => ?_, w7⟩
      obtain ⟨o, e, d⟩ := T.obj _ _ st5 b hb
      exact (I7.pin (b, o) (List.mem_append_right _ (List.mem_append_right _ (mem_pinsAt hb e)))).2.1
    cases f with
    | next => obtain ⟨σ7, H7, I7, n7⟩ := q7; exact again I7 n7
    | cont => obtain ⟨σ7, H7, I7, n7⟩ := q7; exact again I7 n7
    | brk => obtain ⟨σ7, H7, I7, q7⟩ := q7; exact ⟨σ7, H7, I7.unpinned, q7⟩
    | ret v => obtain ⟨x7, σ7, H7, I7, r7, q7⟩ := q7; exact ⟨x7, σ7, H7, I7.unpinned, r7, q7⟩
end

/-! ### the forms one uses -/
/-- over a list that the body leaves as it is -/
theorem for_list {K : PySem.W.Frag} {a : Addr} {xs : List V} {g : TG} {tb : TS} {D : Ends} {σ : St} {H : Hp} (Pv : Nat → St → Hp → Prop) (h0 : Pv 0 σ H) (hl : ∀ i σ H, i ≤ xs.length → Pv i σ H → SqL K H a xs)
    (hs : ∀ i x σ H, xs[i]? = some x → Pv i σ H → g x σ H fun σ2 H2 => tb { D with nx := Pv (i + 1), ct := Pv (i + 1), bk := D.nx } σ2 H2) (hd : ∀ σ H, Pv xs.length σ H → D.nx σ H) :
    ∃ W : Nat → Nat → St → Hp → Prop, (∃ m, W 0 m σ H) ∧ ∀ i m σ H, W i m σ H →
      ((Itl K a).stop i H ∧ D.nx σ H) ∨ ((Itl K a).go i H ∧ ∃ N : St → Hp → Prop, (∀ σ' H', N σ' H' → ∃ m', m' < m ∧ W (i + 1) m' σ' H') ∧ ∀ x H', (Itl K a).yld i H x H' → g x σ H' fun σ2 H2 => tb { D with nx := N, ct := N, bk := D.nx } σ2 H2) := by
  refine ⟨fun i m σ H => m = xs.length - i ∧ i ≤ xs.length ∧ Pv i σ H, ⟨xs.length, by simp, Nat.zero_le _, h0⟩, ?_⟩
  rintro i m σ H ⟨rfl, hi, p⟩
  have q := hl i σ H hi p
  by_cases hlt : i < xs.length
  · refine .inr ⟨⟨xs, xs[i], q, by simp [hlt]⟩, Pv (i + 1), fun σ' H' p' => ⟨xs.length - (i + 1), by omega, rfl, hlt, p'⟩, fun x H' y => ?_⟩
    obtain ⟨e, y⟩ := y
    subst e
    exact hs i x σ _ (y xs q) p
  · have e : i = xs.length := by omega
    subst e
    exact .inl ⟨⟨xs, q, Nat.le_refl _⟩, hd σ H p⟩
theorem for_range {lo : Int} {n : Nat} {g : TG} {tb : TS} {D : Ends} {σ : St} {H : Hp} (Pv : Nat → St → Hp → Prop) (h0 : Pv 0 σ H)
    (hs : ∀ i σ H, i < n → Pv i σ H → g (.int (lo + i)) σ H fun σ2 H2 => tb { D with nx := Pv (i + 1), ct := Pv (i + 1), bk := D.nx } σ2 H2) (hd : ∀ σ H, Pv n σ H → D.nx σ H) :
    ∃ W : Nat → Nat → St → Hp → Prop, (∃ m, W 0 m σ H) ∧ ∀ i m σ H, W i m σ H →
      ((Itr lo n).stop i H ∧ D.nx σ H) ∨ ((Itr lo n).go i H ∧ ∃ N : St → Hp → Prop, (∀ σ' H', N σ' H' → ∃ m', m' < m ∧ W (i + 1) m' σ' H') ∧ ∀ x H', (Itr lo n).yld i H x H' → g x σ H' fun σ2 H2 => tb { D with nx := N, ct := N, bk := D.nx } σ2 H2) := by
  refine ⟨fun i m σ H => m = n - i ∧ i ≤ n ∧ Pv i σ H, ⟨n, by simp, Nat.zero_le _, h0⟩, ?_⟩
  rintro i m σ H ⟨rfl, hi, p⟩
  by_cases hlt : i < n
  · refine .inr ⟨hlt, Pv (i + 1), fun σ' H' p' => ⟨n - (i + 1), by omega, rfl, hlt, p'⟩, fun x H' y => ?_⟩
    obtain ⟨e, y⟩ := y
    subst e y
    exact hs i σ _ hlt p
  · have e : i = n := by omega
    subst e
    exact .inl ⟨Nat.le_refl _, hd σ H p⟩
end L2

namespace L2
open PySem PySem.Spec PyProof.Rows

abbrev R2 := V → V → Hp → VK → Prop
/-- a two-place operation on values: f is binaryOp op, inplaceOp op or compareOp op -/
def OpR (X : Cx) (f : Value → Value → Sem Value) (r : R2) : Prop :=
  ∀ (pins : List (Addr × Obj)) (s : Shared) (σ : St) (H : Hp) (x y : V) (v u : Value) (Q : VK), Inv X pins σ H s → RelV x v → RelV y u → r x y H Q →
    wpAny (model X.prog X.w) X.A (f v u) (EP X pins σ Q) X.xe s
/-- a one-place operation -/
def UnR (X : Cx) (f : Value → Sem Value) (r : V → Hp → VK → Prop) : Prop :=
  ∀ (pins : List (Addr × Obj)) (s : Shared) (σ : St) (H : Hp) (x : V) (v : Value) (Q : VK), Inv X pins σ H s → RelV x v → r x H Q →
    wpAny (model X.prog X.w) X.A (f v) (EP X pins σ Q) X.xe s
/-- a call of a value that is known (a builtin, a type) with values -/
def CallR (X : Cx) (f : Value) (r : List V → Hp → VK → Prop) : Prop :=
  ∀ (pins : List (Addr × Obj)) (s : Shared) (σ : St) (H : Hp) (xs : List V) (us : List Value) (Q : VK), Inv X pins σ H s → Vals xs us → r xs H Q →
    wpAny (model X.prog X.w) X.A (call f us) (EP X pins σ Q) X.xe s
/-- a value's truth -/
def TruR (X : Cx) (r : V → Hp → (Bool → Hp → Prop) → Prop) : Prop :=
  ∀ (pins : List (Addr × Obj)) (s : Shared) (σ : St) (H : Hp) (x : V) (v : Value) (Q : Bool → Hp → Prop), Inv X pins σ H s → RelV x v → r x H Q →
    wpAny (model X.prog X.w) X.A (truthy v) (TP X pins σ Q) X.xe s

def tOp (r : R2) (ta tb : TE) : TE := fun σ H Q => ta σ H fun x H1 => tb σ H1 fun y H2 => r x y H2 Q
def tUn (r : V → Hp → VK → Prop) (ta : TE) : TE := fun σ H Q => ta σ H fun x H1 => r x H1 Q
/-- ints in, under C, and a value out -/
def rI (C : Int → Int → Prop) (g : Int → Int → V) : R2 := fun x y H Q => ∃ i j, x = .int i ∧ y = .int j ∧ C i j ∧ Q (g i j) H
def rI0 (g : Int → Int → V) : R2 := fun x y H Q => ∃ i j, x = .int i ∧ y = .int j ∧ Q (g i j) H
def rU (g : Int → V) : V → Hp → VK → Prop := fun x H Q => ∃ i, x = .int i ∧ Q (g i) H

section
variable {X : Cx} {a b c : Expr} {ta tb tc : TE} {pos : Pos}

theorem binT (ha : PE X a ta) (hb : PE X b tb) {pins : List (Addr × Obj)} {s : Shared} {σ : St} {H : Hp} {R : V → V → Hp → Prop} (I : Inv X pins σ H s)
    (h : ta σ H fun x H1 => tb σ H1 fun y H2 => R x y H2) {Q : Value → Shared → Prop} {f : Value → Value → Sem Value}
    (hf : ∀ v u s2 x y H2, Inv X pins σ H2 s2 → RelV x v → RelV y u → R x y H2 → wpAny (model X.prog X.w) X.A (f v u) Q X.xe s2) :
    wpAny (model X.prog X.w) X.A (eval a X.env) (fun v s₁ => wpAny (model X.prog X.w) X.A (eval b X.env) (fun u s₂ => wpAny (model X.prog X.w) X.A (f v u) Q X.xe s₂) X.xe s₁) X.xe s := by
  refine thn (ha pins s σ H _ I h) fun v s1 ⟨x, H1, I1, r1, q1⟩ => ?_
  refine thn (hb pins s1 σ H1 _ I1 q1) fun u s2 ⟨y, H2, I2, r2, q2⟩ => ?_
  exact hf v u s2 x y H2 I2 r1 r2 q2

theorem pe_op {op : Operator} {r : R2} (ho : OpR X (binaryOp op) r) (ha : PE X a ta) (hb : PE X b tb) : PE X (.BinOp a op b pos) (tOp r ta tb) := by
  intro pins s σ H Q I h
  exact wpAny_BinOp (binT ha hb I h fun v u s2 x y H2 I2 rx ry q => ho pins s2 σ H2 x y v u Q I2 rx ry q)
theorem pe_un {op : UnaryOp} {r : V → Hp → VK → Prop} (ho : UnR X (unaryOp op) r) (ha : PE X a ta) : PE X (.UnaryOp op a pos) (tUn r ta) := by
  intro pins s σ H Q I h
  exact UnaryOp_ (thn (ha pins s σ H _ I h) fun v s1 ⟨x, H1, I1, r1, q1⟩ => ho pins s1 σ H1 x v Q I1 r1 q1)

/-! ### ints -/
theorem opI {f : Value → Value → Sem Value} {C : Int → Int → Prop} {g : Int → Int → Int}
    (rule : ∀ (i j : Int) (t u : Tok) (s : Shared) (Q : Value → Shared → Prop) (E : Value → Shared → Prop), C i j → Q (.int (g i j) s.toks) { s with toks := s.toks + 1 } → wpAny (model X.prog X.w) X.A (f (.int i t) (.int j u)) Q E s) :
    OpR X f (rI C fun i j => .int (g i j)) := by
  intro pins s σ H x y v u Q I rx ry h
  obtain ⟨i, j, rfl, rfl, hc, q⟩ := h
  obtain ⟨t, rfl⟩ := rx
  obtain ⟨t', rfl⟩ := ry
  exact rule i j t t' s _ _ hc ⟨.int (g i j), H, I.tok _, ⟨_, rfl⟩, q⟩
theorem opI0 {f : Value → Value → Sem Value} {g : Int → Int → Int}
    (rule : ∀ (i j : Int) (t u : Tok) (s : Shared) (Q : Value → Shared → Prop) (E : Value → Shared → Prop), Q (.int (g i j) s.toks) { s with toks := s.toks + 1 } → wpAny (model X.prog X.w) X.A (f (.int i t) (.int j u)) Q E s) :
    OpR X f (rI0 fun i j => .int (g i j)) := by
  intro pins s σ H x y v u Q I rx ry h
  obtain ⟨i, j, rfl, rfl, q⟩ := h
  obtain ⟨t, rfl⟩ := rx
  obtain ⟨t', rfl⟩ := ry
  exact rule i j t t' s _ _ ⟨.int (g i j), H, I.tok _, ⟨_, rfl⟩, q⟩
theorem opB0 {f : Value → Value → Sem Value} {g : Int → Int → Bool}
    (rule : ∀ (i j : Int) (t u : Tok) (s : Shared) (Q : Value → Shared → Prop) (E : Value → Shared → Prop), Q (.bool (g i j)) s → wpAny (model X.prog X.w) X.A (f (.int i t) (.int j u)) Q E s) :
    OpR X f (rI0 fun i j => .bl (g i j)) := by
  intro pins s σ H x y v u Q I rx ry h
  obtain ⟨i, j, rfl, rfl, q⟩ := h
  obtain ⟨t, rfl⟩ := rx
  obtain ⟨t', rfl⟩ := ry
  exact rule i j t t' s _ _ ⟨.bl (g i j), H, I, rfl, q⟩

def CDiv (i j : Int) : Prop := 0 < j ∧ j < 1073741824
def CDivN (i j : Int) : Prop := j ≠ 0 ∧ j.natAbs < 1073741824
def CPow (i j : Int) : Prop := 0 ≤ j ∧ j ≤ 1000000 ∧ i.natAbs < 2 ^ 64
def CMul (i j : Int) : Prop := (-(2 ^ 64) < i ∧ i < 2 ^ 64) ∨ (-(2 ^ 64) < j ∧ j < 2 ^ 64)
theorem CMul.ok {i j : Int} (h : CMul i j) : IntMulOk i j := by
  rcases h with ⟨h1, h2⟩ | ⟨h1, h2⟩
  · exact .of_left (intBits_le_64 h1 h2)
  · exact .of_right (intBits_le_64 h1 h2)

theorem op_add : OpR X (binaryOp .Add) (rI0 fun i j => .int (i + j)) := opI0 fun _ _ _ _ _ _ _ q => add_int q
theorem op_sub : OpR X (binaryOp .Sub) (rI0 fun i j => .int (i - j)) := opI0 fun _ _ _ _ _ _ _ q => sub_int q
theorem op_mul : OpR X (binaryOp .Mult) (rI CMul fun i j => .int (i * j)) := opI fun _ _ _ _ _ _ _ hc q => mul_int q hc.ok
/-- // by a positive divisor -/
theorem op_fdiv : OpR X (binaryOp .FloorDiv) (rI CDiv fun i j => .int (i / j)) := opI fun i j _ _ _ _ _ hc q => by
  have h1 : (0 : Int) < j := hc.1
  have h2 : j < 1073741824 := hc.2
  exact floordiv_int (by omega) (by rw [Int.fdiv_eq_ediv_of_nonneg i (by omega)]; exact q) (.inl (PyProof.noPylong_small (by omega)))
/-- % by a positive divisor of any size -/
theorem op_mod : OpR X (binaryOp .Mod) (rI (fun _ j => 0 < j) fun i j => .int (i % j)) := opI fun i j _ _ _ _ _ hc q => by
  have h1 : (0 : Int) < j := hc
  exact mod_int' (by omega) (by rw [Int.fmod_eq_emod_of_nonneg i (by omega)]; exact q)


theorem unI {f : Value → Sem Value} {g : Int → Int}
    (rule : ∀ (i : Int) (t : Tok) (s : Shared) (Q : Value → Shared → Prop) (E : Value → Shared → Prop), Q (.int (g i) s.toks) { s with toks := s.toks + 1 } → wpAny (model X.prog X.w) X.A (f (.int i t)) Q E s) :
    UnR X f (rU fun i => .int (g i)) := by
  intro pins s σ H x v Q I rx h
  obtain ⟨i, rfl, q⟩ := h
  obtain ⟨t, rfl⟩ := rx
  exact rule i t s _ _ ⟨.int (g i), H, I.tok _, ⟨_, rfl⟩, q⟩
theorem un_neg : UnR X (unaryOp .USub) (rU fun i => .int (-i)) := unI fun _ _ _ _ _ q => neg_int q

/-! ### bools among ints: n += (a < b) -/
end

/-! ### comparisons -/
/-- the scalars that == tells apart as data does -/
def scal : V → V → Bool
  | .non, .non => true | .non, .int _ => true | .int _, .non => true | .non, .bl _ => true | .bl _, .non => true | .non, .str _ => true | .str _, .non => true
  | .int _, .int _ => true | .bl _, .bl _ => true | .str _, .str _ => true | .byt _, .byt _ => true
  | .int _, .str _ => true | .str _, .int _ => true | .bl _, .str _ => true | .str _, .bl _ => true
  | _, _ => false
def rEq : R2 := fun x y H Q => scal x y = true ∧ Q (.bl (decide (x = y))) H
def rNe : R2 := fun x y H Q => scal x y = true ∧ Q (.bl (!decide (x = y))) H

theorem dec_int {i j : Int} : decide (V.int i = V.int j) = (i == j) := by
  rw [Bool.eq_iff_iff]
  simp
theorem dec_bl {i j : Bool} : decide (V.bl i = V.bl j) = (i == j) := by
  rw [Bool.eq_iff_iff]
  simp
theorem dec_str {i j : Str} : decide (V.str i = V.str j) = (i == j) := by
  rw [Bool.eq_iff_iff]
  simp
theorem dec_byt {i j : Array UInt8} : decide (V.byt i = V.byt j) = (i.toList == j.toList) := by
  rw [Bool.eq_iff_iff]
  cases i
  cases j
  simp

section
variable {X : Cx} {a b c : Expr} {ta tb tc : TE} {pos : Pos}
theorem fin_bl {pins : List (Addr × Obj)} {σ : St} {H : Hp} {s : Shared} {Q : VK} {k k' : Bool} (I : Inv X pins σ H s) (q : Q (.bl k) H) (e : k = k') : EP X pins σ Q (.bool k') s := by
  subst e
  exact ⟨.bl k, H, I, rfl, q⟩
theorem op_eq : OpR X (compareOp .Eq) rEq := by
  intro pins s σ H x y v u Q I rx ry h
  obtain ⟨hs, q⟩ := h
  cases x with
  | non =>
    cases rx
    cases y with
    | non => cases ry; exact PySem.EqNone.eq_none_none (fin_bl I q (by simp))
    | bl j => cases ry; exact PySem.EqNone.eq_none_bool (fin_bl I q (by simp))
    | int j => obtain ⟨t', rfl⟩ := ry; exact PySem.EqNone.eq_none_int (fin_bl I q (by simp))
    | str j => obtain ⟨t', rfl⟩ := ry; exact PySem.EqNone.eq_none_str (fin_bl I q (by simp))
    | _ => exact absurd (show false = true from hs) Bool.false_ne_true
  | bl i =>
    cases rx
    cases y with
    | non => cases ry; exact PySem.EqNone.eq_bool_none (fin_bl I q (by simp))
    | bl j => cases ry; exact eq_bool (fin_bl I q dec_bl)
    | str j => obtain ⟨t', rfl⟩ := ry; exact PySem.EqMixed.eq_bool_str (fin_bl I q (by simp))
    | _ => exact absurd (show false = true from hs) Bool.false_ne_true
  | int i =>
    obtain ⟨t, rfl⟩ := rx
    cases y with
    | non => cases ry; exact PySem.EqNone.eq_int_none (fin_bl I q (by simp))
    | int j => obtain ⟨t', rfl⟩ := ry; exact eq_int (fin_bl I q dec_int)
    | str j => obtain ⟨t', rfl⟩ := ry; exact PySem.EqMixed.eq_int_str (fin_bl I q (by simp))
    | _ => exact absurd (show false = true from hs) Bool.false_ne_true
  | str i =>
    obtain ⟨t, rfl⟩ := rx
    cases y with
    | non => cases ry; exact PySem.EqNone.eq_str_none (fin_bl I q (by simp))
    | bl j => cases ry; exact PySem.EqMixed.eq_str_bool (fin_bl I q (by simp))
    | int j => obtain ⟨t', rfl⟩ := ry; exact PySem.EqMixed.eq_str_int (fin_bl I q (by simp))
    | str j => obtain ⟨t', rfl⟩ := ry; exact eq_str (fin_bl I q dec_str)
    | _ => exact absurd (show false = true from hs) Bool.false_ne_true
  | byt i =>
    obtain ⟨t, rfl⟩ := rx
    cases y with
    | byt j => obtain ⟨t', rfl⟩ := ry; exact PySem.W.eq_bytes (fin_bl I q dec_byt)
    | _ => exact absurd (show false = true from hs) Bool.false_ne_true
  | _ => cases y <;> exact absurd (show false = true from hs) Bool.false_ne_true
theorem op_ne : OpR X (compareOp .NotEq) rNe := by
  intro pins s σ H x y v u Q I rx ry h
  obtain ⟨hs, q⟩ := h
  cases x with
  | non =>
    cases rx
    cases y with
    | non => cases ry; exact PySem.EqNone.ne_none_none (fin_bl I q (by simp))
    | bl j => cases ry; exact PySem.EqNone.ne_none_bool (fin_bl I q (by simp))
    | int j => obtain ⟨t', rfl⟩ := ry; exact PySem.EqNone.ne_none_int (fin_bl I q (by simp))
    | str j => obtain ⟨t', rfl⟩ := ry; exact PySem.EqNone.ne_none_str (fin_bl I q (by simp))
    | _ => exact absurd (show false = true from hs) Bool.false_ne_true
  | bl i =>
    cases rx
    cases y with
    | non => cases ry; exact PySem.EqNone.ne_bool_none (fin_bl I q (by simp))
    | bl j => cases ry; exact ne_bool (fin_bl I q (congrArg not dec_bl))
    | str j => obtain ⟨t', rfl⟩ := ry; exact PySem.EqMixed.ne_bool_str (fin_bl I q (by simp))
    | _ => exact absurd (show false = true from hs) Bool.false_ne_true
  | int i =>
    obtain ⟨t, rfl⟩ := rx
    cases y with
    | non => cases ry; exact PySem.EqNone.ne_int_none (fin_bl I q (by simp))
    | int j => obtain ⟨t', rfl⟩ := ry; exact ne_int (fin_bl I q (congrArg not dec_int))
    | str j => obtain ⟨t', rfl⟩ := ry; exact PySem.EqMixed.ne_int_str (fin_bl I q (by simp))
    | _ => exact absurd (show false = true from hs) Bool.false_ne_true
  | str i =>
    obtain ⟨t, rfl⟩ := rx
    cases y with
    | non => cases ry; exact PySem.EqNone.ne_str_none (fin_bl I q (by simp))
    | bl j => cases ry; exact PySem.EqMixed.ne_str_bool (fin_bl I q (by simp))
    | int j => obtain ⟨t', rfl⟩ := ry; exact PySem.EqMixed.ne_str_int (fin_bl I q (by simp))
    | str j => obtain ⟨t', rfl⟩ := ry; exact ne_str (fin_bl I q (congrArg not dec_str))
    | _ => exact absurd (show false = true from hs) Bool.false_ne_true
  | byt i =>
    obtain ⟨t, rfl⟩ := rx
    cases y with
    | byt j => obtain ⟨t', rfl⟩ := ry; exact PySem.W.ne_bytes (fin_bl I q (congrArg not dec_byt))
    | _ => exact absurd (show false = true from hs) Bool.false_ne_true
  | _ => cases y <;> exact absurd (show false = true from hs) Bool.false_ne_true

theorem op_lt : OpR X (compareOp .Lt) (rI0 fun i j => .bl (decide (i < j))) := opB0 fun _ _ _ _ _ _ _ q => lt_int q
theorem op_le : OpR X (compareOp .LtE) (rI0 fun i j => .bl (decide (i ≤ j))) := opB0 fun _ _ _ _ _ _ _ q => le_int q
theorem op_gt : OpR X (compareOp .Gt) (rI0 fun i j => .bl (decide (j < i))) := opB0 fun _ _ _ _ _ _ _ q => gt_int q
theorem op_ge : OpR X (compareOp .GtE) (rI0 fun i j => .bl (decide (j ≤ i))) := opB0 fun _ _ _ _ _ _ _ q => ge_int q


/-- is, is not of two objects that are tracked lists or instances -/
def isObj : HO → Bool
  | .lst _ => true
  | .ins _ _ _ => true
  | _ => false


theorem nomark (b : Expr) {op : CmpOp} (h : op ≠ .In := by decide) (h2 : op ≠ .NotIn := by decide) : behindInMarks op b = false := by
  have e1 : (op == CmpOp.In) = false := by cases op <;> first | rfl | exact absurd rfl h
  have e2 : (op == CmpOp.NotIn) = false := by cases op <;> first | rfl | exact absurd rfl h2
  cases b <;> simp [behindInMarks, e1, e2]
/-- a comparison as a value; hm: nomark b, or (for in, not in) by with_unfolding_all rfl -/
theorem pe_cmpR {op : CmpOp} {r : R2} (ho : OpR X (compareOp op) r) (ha : PE X a ta) (hb : PE X b tb) (hm : behindInMarks op b = false) : PE X (.Compare a [op] [b] pos) (tOp r ta tb) := by
  intro pins s σ H Q I h
  exact wpAny_Compare1 (binT ha hb I h fun v u s2 x y H2 I2 rx ry q => ho pins s2 σ H2 x y v u Q I2 rx ry q) hm
/-- a reading of a value as a test -/
def tTest (t : TE) : TT := fun σ H Q => t σ H fun x H' => ∃ k, x = .bl k ∧ Q k H'
theorem pt_cmpR {op : CmpOp} {r : R2} (ho : OpR X (compareOp op) r) (ha : PE X a ta) (hb : PE X b tb) (hm : behindInMarks op b = false) : PT X (.Compare a [op] [b] pos) (tTest (tOp r ta tb)) := by
  intro pins s σ H Q I h
  refine wpAny_isTrue_Compare1 (thn (ha pins s σ H _ I h) fun v s1 ⟨x, H1, I1, r1, q1⟩ => thn (hb pins s1 σ H1 _ I1 q1) fun u s2 ⟨y, H2, I2, r2, q2⟩ =>
    thn (ho pins s2 σ H2 x y v u _ I2 r1 r2 q2) fun c s3 ⟨z, H3, I3, r3, k, e, q3⟩ => ?_) hm
  subst e
  cases r3
  exact wpAny_truthy_bool ⟨H3, I3, q3⟩
/-- a op1 b op2 c -/
def tChain (r r' : R2) (ta tb tc : TE) : TE := fun σ H Q => ta σ H fun x H1 => tb σ H1 fun y H2 => r x y H2 fun z H3 => ∃ k, z = .bl k ∧
  (if k = true then tc σ H3 fun w' H4 => r' y w' H4 Q else Q (.bl false) H3)
theorem pt_chain {op op' : CmpOp} {r r' : R2} (ho : OpR X (compareOp op) r) (ho' : OpR X (compareOp op') r') (ha : PE X a ta) (hb : PE X b tb) (hc : PE X c tc)
    (hm : lastMarks [op, op'] [b, c] = false := by with_unfolding_all rfl) : PT X (.Compare a [op, op'] [b, c] pos) (tTest (tChain r r' ta tb tc)) := by
  intro pins s σ H Q I h
  refine isTrue_chain (thn (ha pins s σ H _ I h) fun v s1 ⟨x, H1, I1, r1, q1⟩ => test_link (thn (hb pins s1 σ H1 _ I1 q1) fun u s2 ⟨y, H2, I2, r2, q2⟩ =>
    thn (ho pins s2 σ H2 x y v u _ I2 r1 r2 q2) fun d s3 ⟨z, H3, I3, r3, k, e, q3⟩ => ?_)) hm
  subst e
  cases r3
  refine wpAny_truthy_bool ?_
  cases k with
  | false =>
    obtain ⟨k', e', q'⟩ := q3
    cases e'
    exact ite_ff ⟨H3, I3, q'⟩
  | true =>
    refine ite_tt (test_last (thn (hc pins s3 σ H3 _ I3 q3) fun w' s4 ⟨z', H4, I4, r4, q4⟩ => thn (ho' pins s4 σ H4 y z' u w' _ I4 r2 r4 q4) fun d' s5 ⟨z2, H5, I5, r5, k2, e2, q5⟩ => ?_))
    subst e2
    cases r5
    exact wpAny_truthy_bool ⟨H5, I5, q5⟩

/-! ### truth -/
/-- a value's truth by the abstract heap -/
def TruV (K : PySem.W.Frag) (x : V) (H : Hp) (k : Bool) : Prop :=
  match x with
  | .non => k = false
  | .bl b => k = b
  | .int i => k = (i != 0)
  | .str y => y.length ≤ sizeLine ∧ k = ((y.length : Int) != 0)
  | .byt y => y.size ≤ sizeLine ∧ k = ((y.size : Int) != 0)
  | .ref p => (∃ xs, SqL K H p xs ∧ k = !xs.isEmpty) ∨ (∃ xs, SqT K H p xs ∧ k = !xs.isEmpty) ∨ ∃ kvs, H p = some (.dK kvs) ∧ k = !kvs.isEmpty
  | _ => False
theorem line63 : (sizeLine : Nat) < 2 ^ 63 := by rw [sizeLine_eq]; decide

/-! ### strs and bytes -/

def PlainIxT (b : Expr) : Prop := ∀ o i, subscripted b false o i = operate [o, i] (getItem o i)

/-! ### scalar builtins, by CallR -/
theorem vals1 {x : V} {us : List Value} (r : Vals [x] us) : ∃ u, us = [u] ∧ RelV x u := by
  cases r with
  | cons r1 r2 => cases r2; exact ⟨_, rfl, r1⟩
theorem vals2 {x y : V} {us : List Value} (r : Vals [x, y] us) : ∃ u w', us = [u, w'] ∧ RelV x u ∧ RelV y w' := by
  cases r with
  | cons r1 r2 =>
    cases r2 with
    | cons r3 r4 => cases r4; exact ⟨_, _, rfl, r1, r3⟩
theorem call_min2 (hc : X.calm = true) : CallR X (.builtin "min") (fun xs H Q => ∃ i j, xs = [.int i, .int j] ∧ Q (.int (if j < i then j else i)) H) := by
  intro pins s σ H xs us Q I r h
  obtain ⟨i, j, rfl, q⟩ := h
  obtain ⟨u, w', rfl, ⟨t, rfl⟩, ⟨t', rfl⟩⟩ := vals2 r
  refine min_two_ints (I.ok.hd hc) fun h' tk k => ⟨_, H, I.kept k, ?_, q⟩
  by_cases hj : j < i
  · rw [if_pos hj, if_pos hj]; exact ⟨_, rfl⟩
  · rw [if_neg hj, if_neg hj]; exact ⟨_, rfl⟩
/-- len of a str, a bytes, a list, a tuple -/
def LenV (K : PySem.W.Frag) (x : V) (H : Hp) (n : Nat) : Prop :=
  match x with
  | .str y => y.length ≤ sizeLine ∧ n = y.length
  | .byt y => y.size ≤ sizeLine ∧ n = y.size
  | .ref p => (∃ xs, SqL K H p xs ∧ n = xs.length) ∨ ∃ xs, SqT K H p xs ∧ n = xs.length
  | _ => False
end
end L2

namespace L2
open PySem PySem.Spec PyProof.Rows

/-! ### an instance, its attributes a map -/
structure ObjM (h : Heap) (x dx C : Addr) (mA : Str → Option Value) : Prop where
  obj : h.get? x = some (PySem.W.instObj C dx)
  ns : h.Ns1 dx mA
  ne : dx ≠ x

theorem lookIn_ns {h : Heap} {dx : Addr} {mA : Str → Option Value} (n : h.Ns1 dx mA) : ∃ od, h.get? dx = some od ∧ ∀ name, PySem.W.lookIn name od = some (mA name) := by
  obtain ⟨o, es, ep, ho, hd, hk, _, hm⟩ := n
  refine ⟨o, ho, fun name => ?_⟩
  have e := hm name
  unfold nsFind findBy at e
  rw [← Array.find?_toList] at e
  unfold PySem.W.lookIn
  rw [hd]
  dsimp only
  split
  · rename_i y q
    rw [q] at e
    exact congrArg some e
  · rename_i q
    rw [q] at e
    have a : es.toList.any (·.refKey) = false := by
      rw [List.any_eq_false]
      intro y hy
      obtain ⟨z, t, hkey⟩ := hk y (Array.mem_toList_iff.mp hy)
      simp [DictEntry.refKey, hkey]
    have a' : ¬ es.toList.any (·.refKey) = true := by rw [a]; exact Bool.false_ne_true
    rw [if_neg a']
    exact congrArg some e

theorem ObjM.look {h : Heap} {x dx C : Addr} {mA : Str → Option Value} (I : ObjM h x dx C mA) : ∃ od, PySem.W.InstAt h x (PySem.W.instObj C dx) C (some od) ∧ ∀ name, PySem.W.lookIn name od = some (mA name) :=
  let ⟨od, ho, hl⟩ := lookIn_ns I.ns
  ⟨od, ⟨I.obj, rfl, rfl, ho⟩, hl⟩

section
variable {prog : Program} {w : World} {A : Around} {E : Value → Shared → Prop} {s : Shared} {K : PySem.W.Frag} {x dx C f : Addr} {mA : Str → Option Value} {name : Str} {v : Value}





end

/-! ### the attributes as a list of pairs -/
def putF (f : Str) (v : V) : List (Str × V) → List (Str × V)
  | [] => [(f, v)]
  | (g, x) :: r => if g = f then (g, v) :: r else (g, x) :: putF f v r

theorem RelO.some_of {v : V} {o : Option Value} (r : RelO (some v) o) : ∃ u, o = some u ∧ RelV v u := by
  cases o with
  | none => exact (show False from r).elim
  | some u => exact ⟨u, rfl, r⟩

section
variable {P : Program} {w : World} {H H' : Hp} {h h' : Heap} {a C dx : Addr} {fs fs' : List (Str × V)}
theorem ins_get (hok : HOk P w H h) (e : H a = some (.ins C dx fs)) : ∃ mA, ObjM h a dx C mA ∧ (∀ f, RelO (fs.lookup f) (mA f)) ∧ PySem.Within mA (fs.map (·.1)) ∧ fs.length ≤ 1000 ∧ H dx = some (.own a) := by
  obtain ⟨d, z, ne, ob, mA, n, r, q⟩ := (show ObjOk P w H h a (.ins C dx fs) from hok a _ e)
  exact ⟨mA, ⟨ob, n, ne⟩, r, q, z, d⟩
end

/-! ### what of the text a class must have -/
structure Cls (K : PySem.W.Frag) (C : Addr) : Prop where
  pg : PySem.W.plainGet K C Str.empty = true
  hd : PySem.W.hasDictIn K C = true
  po : PySem.W.plainOver K C = true
  sa : PySem.W.findIn K (.ref C) "__setattr__" = some (some (.builtin "object.__setattr__"))
theorem Cls.get {K : PySem.W.Frag} {C : Addr} (c : Cls K C) (f : Str) : PySem.W.plainGet K C f = true := c.pg
/-- no class of it has the name -/
def NoAttr (K : PySem.W.Frag) (C : Addr) (f : Str) : Prop := PySem.W.findIn K (.ref C) f = some none
/-- a constant of the class -/
structure Con (K : PySem.W.Frag) (C : Addr) (f : Str) (v : V) (u : Value) : Prop where
  at_ : PySem.W.findIn K (.ref C) f = some (some u)
  rel : RelV v u
  get : PySem.W.specialIn K u "__get__" = some none
  cp : PySem.W.copiedNames.contains f = false
/-- a method: a plain def of the class or of one above it -/
structure Meth (K : PySem.W.Frag) (C : Addr) (m : Str) (f : Addr) : Prop where
  at_ : PySem.W.findIn K (.ref C) m = some (some (.ref f))
  fn : PySem.W.isFn K (.ref f) = true
  kp : PySem.W.keepIn K (.ref f) = true

section
variable {X : Cx} {pins : List (Addr × Obj)} {σ : St} {H : Hp} {s : Shared} {a C dx : Addr} {fs : List (Str × V)} {f : Str} {v : V} {A : Around} {E : Value → Shared → Prop}






end

/-! ### readings and rules -/
/-- e.f, an attribute of the instance -/
def tFld (K : PySem.W.Frag) (ta : TE) (f : Str) : TE := fun σ H Q => ta σ H fun x H1 => ∃ a C dx fs v, x = .ref a ∧ H1 a = some (.ins C dx fs) ∧ Cls K C ∧ NoAttr K C f ∧ fs.lookup f = some v ∧ Q v H1
/-- e.f, a constant of the class -/
def tCon (K : PySem.W.Frag) (ta : TE) (f : Str) : TE := fun σ H Q => ta σ H fun x H1 => ∃ a C dx fs v u, x = .ref a ∧ H1 a = some (.ins C dx fs) ∧ Cls K C ∧ Con K C f v u ∧ fs.lookup f = none ∧ Q v H1
/-- e.f = value -/
def sFld (K : PySem.W.Frag) (ta tv : TE) (f : Str) : TS := fun D σ H => tv σ H fun y H1 => ta σ H1 fun x H2 => ∃ a C dx fs, x = .ref a ∧ H2 a = some (.ins C dx fs) ∧ Cls K C ∧ NoAttr K C f ∧ fs.length < 1000 ∧
  D.nx σ (upd H2 a (.ins C dx (putF f y fs)))
/-- an augmented operator on two values -/
def InOp (X : Cx) (op : Operator) (rd : V → V → Hp → VK → Prop) : Prop :=
  ∀ (pins : List (Addr × Obj)) (s : Shared) (σ : St) (H : Hp) (x y : V) (u v : Value) (Q : VK), Inv X pins σ H s → RelV x u → RelV y v → rd x y H Q → wpAny (model X.prog X.w) X.A (inplaceOp op u v) (EP X pins σ Q) X.xe s
/-- e.f op= value -/
def sFldAug (K : PySem.W.Frag) (ta tv : TE) (rd : V → V → Hp → VK → Prop) (f : Str) : TS := fun D σ H => ta σ H fun x H1 => ∃ a C dx fs v, x = .ref a ∧ H1 a = some (.ins C dx fs) ∧ Cls K C ∧ NoAttr K C f ∧ fs.lookup f = some v ∧
  tv σ H1 fun y H2 => rd v y H2 fun z H3 => ∃ dx' fs', H3 a = some (.ins C dx' fs') ∧ fs'.length < 1000 ∧ D.nx σ (upd H3 a (.ins C dx' (putF f z fs')))

section
variable {X : Cx} {o e value : Expr} {f : Str} {pos pos' tpos : Pos} {ta tv : TE}
def rAdd : V → V → Hp → VK → Prop := fun x y H Q => ∃ i j, x = .int i ∧ y = .int j ∧ Q (.int (i + j)) H
def rSub : V → V → Hp → VK → Prop := fun x y H Q => ∃ i j, x = .int i ∧ y = .int j ∧ Q (.int (i - j)) H

end

/-! ### isinstance -/
section
variable {X : Cx} {pins : List (Addr × Obj)} {σ : St} {H : Hp} {s : Shared} {A : Around} {E : Value → Shared → Prop} {Q : Value → Shared → Prop} {c : Value} {b : Bool}
/-- the type of a value, as the fragment's deciders take it; for an instance its class -/
inductive TyOf (K : PySem.W.Frag) (H : Hp) : V → Value → Prop where
  | non : TyOf K H .non (.type "NoneType")
  | bl (x : Bool) : TyOf K H (.bl x) (.type "bool")
  | int (i : Int) : TyOf K H (.int i) (.type "int")
  | str (x : Str) : TyOf K H (.str x) (.type "str")
  | flt (x : UInt64) : TyOf K H (.flt x) (.type "float")
  | lst {a : Addr} {xs : List V} (e : H a = some (.lst xs)) : TyOf K H (.ref a) (.type "list")
  | frz {a : Addr} {o : Obj} {xs : List V} (e : H a = some (.frz o (.lst xs))) : TyOf K H (.ref a) (.type "list")
  | tup {a : Addr} {xs : List V} (e : H a = some (.tup xs)) : TyOf K H (.ref a) (.type "tuple")
  | dK {a : Addr} {kvs : List (Key × V)} (e : H a = some (.dK kvs)) : TyOf K H (.ref a) (.type "dict")
  | dT {a : Addr} {kvs : List (List Key × V)} (e : H a = some (.dT kvs)) : TyOf K H (.ref a) (.type "dict")
  | ins {a C dx : Addr} {fs : List (Str × V)} (e : H a = some (.ins C dx fs)) (cl : Cls K C) (ha : PySem.W.findIn K (.ref C) "__class__" = some (some (.builtin "object.__class__")))
      (hn : PySem.W.specialIn K (.builtin "object.__class__") "__get__" = some (some (.builtin "getset_descriptor.__get__"))) (htk : PySem.W.takesIn K (.builtin "object.__class__") = some true)
      (hm : PySem.W.mroIn K C (.type "object") = some true) : TyOf K H (.ref a) (.ref C)
/-- isinstance(x, c) for one class c, a built-in or an own one: kitOne's answer -/
theorem isinst_ok {x : V} {u t : Value} (I : Inv X pins σ H s) (rx : RelV x u) (ty : TyOf X.K H x t) (e : PySem.W.kitOne X.K t c = some b) (h : ∀ tk, Q (.bool b) { s with toks := tk }) :
    wpAny (model X.prog X.w) A (call (.builtin "isinstance") [u, c]) Q E s := by
  cases ty with
  | non => cases (show u = Value.none from rx); exact PySem.W.kia_one PySem.W.kitx_none I.kIn True.intro e (fun z => nomatch z) h
  | bl y => cases (show u = Value.bool y from rx); exact PySem.W.kia_one PySem.W.kitx_bool I.kIn True.intro e (fun z => nomatch z) h
  | int i => obtain ⟨t, q⟩ := (show ∃ t, u = Value.int i t from rx); cases q; exact PySem.W.kia_one PySem.W.kitx_int I.kIn True.intro e (fun z => nomatch z) h
  | str y => obtain ⟨t, q⟩ := (show ∃ t, u = Value.str y t from rx); cases q; exact PySem.W.kia_one PySem.W.kitx_str I.kIn True.intro e (fun z => nomatch z) h
  | flt y => obtain ⟨t, q⟩ := (show ∃ t, u = Value.float y t from rx); cases q; exact PySem.W.kia_one PySem.W.kitx_float I.kIn True.intro e (fun z => nomatch z) h
  | @lst a xs ea =>
    cases (show u = Value.ref a from rx)
    obtain ⟨_, _, n, _, h1⟩ := (show ObjOk X.prog X.w H s.heap a (.lst xs) from I.hok a _ ea)
    exact PySem.W.kia_one PySem.W.kitx_list I.kIn ⟨_, h1, rfl⟩ e (fun z => nomatch z) h
  | @frz a ob xs ea =>
    cases (show u = Value.ref a from rx)
    obtain ⟨_, _, _, n, _, h1⟩ := (show ObjOk X.prog X.w H s.heap a (.frz ob (.lst xs)) from I.hok a _ ea)
    exact PySem.W.kia_one PySem.W.kitx_list I.kIn ⟨_, h1, rfl⟩ e (fun z => nomatch z) h
  | @tup a xs ea =>
    cases (show u = Value.ref a from rx)
    obtain ⟨_, _, _, p⟩ := (show ObjOk X.prog X.w H s.heap a (.tup xs) from I.hok a _ ea)
    obtain ⟨o, h1, h2, _⟩ := p
    exact PySem.W.kia_one PySem.W.kitx_tuple I.kIn ⟨o, h1, h2⟩ e (fun z => nomatch z) h
  | @dK a kvs ea =>
    cases (show u = Value.ref a from rx)
    obtain ⟨_, _, vs, _, p⟩ := (show ObjOk X.prog X.w H s.heap a (.dK kvs) from I.hok a _ ea)
    obtain ⟨o, es, ep, h1, h2, _⟩ := p
    exact PySem.W.kia_one PySem.W.kitx_dict I.kIn ⟨o, h1, h2.1⟩ e (fun z => nomatch z) h
  | @dT a kvs ea =>
    cases (show u = Value.ref a from rx)
    obtain ⟨_, _, xs, _, o, es, ep, h1, h2, _⟩ := (show ObjOk X.prog X.w H s.heap a (.dT kvs) from I.hok a _ ea)
    exact PySem.W.kia_one PySem.W.kitx_dict I.kIn ⟨o, h1, h2.1⟩ e (fun z => nomatch z) h
  | @ins a C dx fs ea cl ha hn htk hm =>
    cases (show u = Value.ref a from rx)
    obtain ⟨mA, O, _⟩ := ins_get I.hok ea
    obtain ⟨od, J, _⟩ := O.look
    exact PySem.W.kia_one (PySem.W.kitx_own (cl.get _) cl.hd ha hn htk hm) I.kIn J e (fun z => nomatch z) h
end
end L2

namespace L2
open PySem PySem.Spec PyProof.Rows

/-! ### room -/
structure Room (k : Nat) (A : Around) : Prop where
  hd : A.handled = none
  dp : A.depth + 3 * k + 5 < recursionLimit
  un : A.units + 16 * k + 200 < cLine
theorem Room.mono {j k : Nat} {A : Around} (r : Room k A) (h : j ≤ k) : Room j A := ⟨r.hd, by have := r.dp; omega, by have := r.un; omega⟩
theorem Room.deeper {k : Nat} {A : Around} (r : Room (k + 1) A) (env : Env) : Room k (A.deeper env) :=
  ⟨r.hd, by have := r.dp; show A.depth + 1 + 3 * k + 5 < _; omega, by have := r.un; show A.units + 3 + 16 * k + 200 < _; omega⟩
theorem Room.depth {k : Nat} {A : Around} (r : Room k A) : A.depth < recursionLimit := by have := r.dp; omega
theorem Room.units {k : Nat} {A : Around} (r : Room k A) : A.units + 64 < cLine := by have := r.un; omega

/-! ### argument lists and displays -/
def tNil : TA := fun _ H Q => Q [] H
def tCons (ta : TE) (tr : TA) : TA := fun σ H Q => ta σ H fun x H1 => tr σ H1 fun xs H2 => Q (x :: xs) H2
section
variable {X : Cx} {e : Expr} {es : List Expr} {te : TE} {t : TA} {pos : Pos}
theorem pa_nil : PA X [] tNil := fun _ _ _ _ H Q I h => Calls.spliced_nil ⟨[], H, I, .nil, h⟩
theorem pa_cons (ha : PE X e te) (hr : PA X es t) (hs : starEach (e :: es) X.env = (false, eval e X.env) :: starEach es X.env := by rfl) : PA X (e :: es) (tCons te t) := by
  intro pos pins s σ H Q I h
  rw [hs]
  show wpAny _ _ (spliced ((false, eval e X.env) :: backTo pos (starEach es X.env))) _ _ s
  refine Calls.spliced_cons (thn (ha pins s σ H _ I h) fun u s1 ⟨x, H1, I1, r1, q1⟩ => ?_)
  exact thn (hr pos pins s1 σ H1 _ I1 q1) fun us s2 ⟨xs, H2, I2, r2, q2⟩ => ⟨x :: xs, H2, I2, .cons r1 r2, q2⟩

/-- a tuple, a list of written items -/
def tTup (t : TA) : TE := fun σ H Q => t σ H fun xs H1 => xs.length ≤ sizeLine ∧ ∀ p, H1 p = none → Q (.ref p) (upd H1 p (.tup xs))
def tLst (t : TA) : TE := fun σ H Q => t σ H fun xs H1 => xs.length ≤ sizeLine ∧ ∀ p, H1 p = none → Q (.ref p) (upd H1 p (.lst xs))
theorem pe_tup {x1} (h : PA X es t) : PE X (.Tuple es x1 pos) (tTup t) := by
  intro pins s σ H Q I hq
  refine wpAny_Tuple_spliced (thn (h pos pins s σ H _ I hq) fun us s1 ⟨xs, H1, I1, r, z, q⟩ => ⟨by rw [← r.length]; exact z, ?_⟩)
  have hf : H1 s1.heap.objs.size = none := I1.hok.fresh (Nat.le_refl _)
  refine ⟨.ref s1.heap.objs.size, upd H1 s1.heap.objs.size (.tup xs), I1.laid (t' := s1.toks) (fun b u e => Heap.get?_push_of_some _ e) (Nat.le_refl _) ?_, rfl, q _ hf⟩
  exact ⟨z, us, r, ⟨_, Heap.get?_push_size _ rfl, rfl, _, rfl⟩⟩
theorem pe_lst (h : PA X es t) : PE X (.List es pos) (tLst t) := by
  intro pins s σ H Q I hq
  refine wpAny_List_spliced (thn (h pos pins s σ H _ I hq) fun us s1 ⟨xs, H1, I1, r, z, q⟩ => ⟨by rw [← r.length]; exact z, ?_⟩)
  have hf : H1 s1.heap.objs.size = none := I1.hok.fresh (Nat.le_refl _)
  refine ⟨.ref s1.heap.objs.size, upd H1 s1.heap.objs.size (.lst xs), I1.laid (t' := s1.toks) (fun b u e => Heap.get?_push_of_some _ e) (Nat.le_refl _) ?_, rfl, q _ hf⟩
  exact ⟨z, us, 0, r, Heap.get?_push_size _ rfl⟩
end

/-! ### what a def promises -/
/-- a def's promise: the bound arguments in the parameters' order, the heap, the wanted end, the wanted exception -/
abbrev Sp := List V → Hp → VK → XK → Prop
/-- how an exception lies behind a call (file 08 gives it): the callers' frames, abstract heap and state ahead of the call, the wish, the exception, the state -/
abbrev CXT := List Env → Hp → Shared → XK → Value → Shared → Prop

/-- the state at a call -/
structure Env0 (P : Program) (w : World) (K : PySem.W.Frag) (mg : Str → Option Value) (base : Heap) (A : Around) (outer : List Env) (s : Shared) (H : Hp) : Prop where
  frames : A.frames = some outer
  mod : Mod K mg base
  bs : ∀ b o, base.get? b = some o → s.heap.get? b = some o ∧ H b = none
  bsz : base.objs.size ≤ s.heap.objs.size
  funs : s.heap.FunFrames base outer
  frf : ∀ b ∈ frs outer, H b = none
  hok : HOk P w H s.heap
  bare : AllBare s.gens
/-- a call's end -/
def CE (outer : List Env) (P : Program) (w : World) (H : Hp) (s : Shared) (Q : VK) (u : Value) (s' : Shared) : Prop :=
  ∃ v H', s'.os = s.os ∧ AllBare s'.gens ∧ Un (frs outer) [] H H' s.heap s'.heap ∧ HOk P w H' s'.heap ∧ RelV v u ∧ Q v H'
def CR (CX : CXT) (outer : List Env) (P : Program) (w : World) (H : Hp) (s : Shared) (Q : VK) (E : XK) (r : Result) (s' : Shared) : Prop :=
  match r with
  | .ok (.ret u) => CE outer P w H s Q u s'
  | .ok _ => False
  | .error e => CX outer H s E e s'
structure FnOk (P : Program) (w : World) (K : PySem.W.Frag) (mg : Str → Option Value) (base : Heap) (CX : CXT) (k : Nat) (f : Addr) (fd : FuncData) (ps : List Str) (sp : Sp) : Prop where
  len : ∀ vs H Q E, sp vs H Q E → vs.length = ps.length
  run : ∀ (A : Around) (outer : List Env) (s : Shared) (H : Hp) (args : Args) (us : List Value) (vs : List V) (Q : VK) (E : XK), Room k A → Env0 P w K mg base A outer s H → BindsTo s fd args (ps.zip us) → Vals vs us → sp vs H Q E →
    codeAny (model P w) A (.call (.ref f) args) (CR CX outer P w H s Q E) s


section
variable {X : Cx} {pins : List (Addr × Obj)} {σ : St} {H : Hp} {s s' : Shared}
/-- from a body: what a callee wants -/
theorem Inv.env0 (I : Inv X pins σ H s) : Env0 X.prog X.w X.K X.mg X.base X.A X.stack s H :=
  ⟨I.ok.frames, I.ok.mod, I.bs, Nat.le_trans I.ok.bsz I.sz, I.stack, I.stkFree, I.hok, I.bare⟩
/-- behind a call -/
theorem Inv.after {Q : VK} {u : Value} (I : Inv X pins σ H s) (h : CE X.stack X.prog X.w H s Q u s') : EP X pins σ Q u s' := by
  obtain ⟨v, H', os, bare, un, hok, r, q⟩ := h
  obtain ⟨hh, g, d, t, os'⟩ := s'
  obtain rfl : os' = s.os := os
  exact ⟨v, H', I.call (h' := hh) (g' := g) (d' := d) (t' := t) (ch := []) un hok bare (fun b z => absurd z (by simp)), r, q⟩
end

/-! ### calls -/
/-- f(..): the written arguments, then the defaults dvs; E: what is wanted of an exception -/
def tCall (sp : Sp) (dvs : List V) (E : XK) (t : TA) : TE := fun σ H Q => t σ H fun vs H1 => sp (vs ++ dvs) H1 Q E
/-- o.m(..) of an instance of the class at C -/
def tMeth (C : Addr) (m : Str) (sp : Sp) (dvs : List V) (E : XK) (ta : TE) (t : TA) : TE := fun σ H Q => ta σ H fun x H1 => ∃ a dx fs, x = .ref a ∧ H1 a = some (.ins C dx fs) ∧ fs.lookup m = none ∧
  t σ H1 fun vs H2 => sp (x :: (vs ++ dvs)) H2 Q E
/-- C(..): a new instance and its dict, then __init__ -/
def tMake (C : Addr) (sp : Sp) (dvs : List V) (E : XK) (t : TA) : TE := fun σ H Q => t σ H fun vs H1 => ∀ x dx, H1 x = none → H1 dx = none → dx ≠ x →
  sp (.ref x :: (vs ++ dvs)) (upd (upd H1 dx (.own x)) x (.ins C dx [])) (fun v H2 => v = .non ∧ Q (.ref x) H2) E

/-- how the parameters are bound: us the positional arguments, kw the keywords' values by name, ds the defaults that fill up -/
def Binds (K : PySem.W.Frag) (fd : FuncData) (ps : List Str) (ds : List Value) : Prop :=
  ∀ (s : Shared) (us : List Value), K.In s.heap → (us ++ ds).length = ps.length → BindsTo s fd ⟨us, []⟩ (ps.zip (us ++ ds))
/-- every parameter is given -/
theorem Binds.all {K : PySem.W.Frag} {fd : FuncData} {ps : List Str} (h : ∀ us : List Value, us.length = ps.length → bindArgs fd ⟨us, []⟩ = pure (ps.zip us)) : Binds K fd ps [] := fun s us _ hl => by
  rw [List.append_nil] at hl ⊢
  exact .of_eq (h us hl)

/-- an exception of a callee reaches what this body wants of exceptions -/
def Passes (CX : CXT) (X : Cx) (E : XK) : Prop := ∀ (pins : List (Addr × Obj)) (σ : St) (H : Hp) (s : Shared) (e : Value) (s' : Shared), Inv X pins σ H s → CX X.stack H s E e s' → X.xe e s'

section
variable {X : Cx} {CX : CXT} {k : Nat} {f C : Addr} {fd : FuncData} {ps : List Str} {sp : Sp} {dvs : List V} {ds : List Value} {E : XK} {x m : Str} {p pos apos : Pos} {e o : Expr} {es : List Expr} {ta : TE} {t : TA}

/-- the callee runs -/
theorem run_fn {pins : List (Addr × Obj)} {σ : St} {H : Hp} {s : Shared} {Q : VK} {us : List Value} {vs : List V} (F : FnOk X.prog X.w X.K X.mg X.base CX k f fd ps sp) (hr : Room k X.A) (hb : Binds X.K fd ps ds) (hd : Vals dvs ds) (hx : Passes CX X E)
    (I : Inv X pins σ H s) (r : Vals vs us) (h : sp (vs ++ dvs) H Q E) : wpAny (model X.prog X.w) X.A (call (.ref f) us) (EP X pins σ Q) X.xe s := by
  have r2 : Vals (vs ++ dvs) (us ++ ds) := r.append hd
  have hl : (us ++ ds).length = ps.length := by rw [← r2.length]; exact F.len _ _ _ _ h
  refine wpAny_call (codeAny_mono (F.run X.A X.stack s H ⟨us, []⟩ (us ++ ds) (vs ++ dvs) Q E hr I.env0 (hb s us I.kIn hl) r2 h) fun r s' hq => ?_)
  cases r with
  | error e => exact hx pins σ H s e s' I hq
  | ok fl =>
    cases fl with
    | ret u => exact I.after hq
    | next => exact False.elim hq
    | brk => exact False.elim hq
    | cont => exact False.elim hq

theorem pe_call (F : FnOk X.prog X.w X.K X.mg X.base CX k f fd ps sp) (hr : Room k X.A) (hg : Gl X x) (hm : X.mg x = some (.ref f)) (hk : PySem.W.keepIn X.K (.ref f) = true) (hb : Binds X.K fd ps ds) (hd : Vals dvs ds) (hx : Passes CX X E)
    (ha : PA X (e :: es) t) (hdb : (x == ("__debug__" : Str)) = false := by decide) (he : starEach (e :: es) X.env = (false, eval e X.env) :: starEach es X.env := by rfl) (hpl : (backTo pos (starEach es X.env)).any (·.1) = false := by rfl) :
    PE X (.Call (.Name x p) (e :: es) [] pos) (tCall sp dvs E t) := by
  intro pins s σ H Q I h
  refine wpAny_Call_Name_kw (ld_glob I hg hm ?_ hdb)
  refine PySem.W.callWith_K (h₀ := X.base) I.ok.mod.kin hk (thn (ha pos pins s σ H _ I h) fun us s1 ⟨vs, H1, I1, r, q⟩ => ⟨I1.kIn, ?_⟩) he hpl
  exact run_fn F hr hb hd hx I1 r q


/-- what a class must have to be made -/
structure Mk (K : PySem.W.Frag) (C f : Addr) : Prop where
  makes : PySem.W.makesIn K C = true
  init : PySem.W.findIn K (.ref C) "__init__" = some (some (.ref f))
  fn : PySem.W.isFn K (.ref f) = true
  kp : PySem.W.keepIn K (.ref C) = true

end

/-! ### keywords -/
/-- the values of the keywords, from the left -/
def PK (X : Cx) (kws : List Keyword) (t : TA) : Prop :=
  ∀ (pos : Pos) (pins : List (Addr × Obj)) (s : Shared) (σ : St) (H : Hp) (Q : List V → Hp → Prop), Inv X pins σ H s → t σ H Q → wpAny (model X.prog X.w) X.A (evalAll ((backToKw pos (keywordEach kws X.env)).map (·.2))) (AP X pins σ Q) X.xe s
section
variable {X : Cx} {CX : CXT} {k : Nat} {f C : Addr} {fd : FuncData} {ps ks : List Str} {sp : Sp} {E : XK} {x m : Str} {p pos apos kpos : Pos} {e o : Expr} {es : List Expr} {kws : List Keyword} {te ta : TE} {t tk : TA} {nm : Option Str}

/-- how a call with keywords binds: g puts the positional values us and the keywords' values ws (names ks) in the parameters' order, defaults among them -/
structure KBinds (K : PySem.W.Frag) (fd : FuncData) (ps ks : List Str) (g : List Value → List Value → List Value) (gV : List V → List V → List V) : Prop where
  to : ∀ (s : Shared) (us ws : List Value), K.In s.heap → (g us ws).length = ps.length → BindsTo s fd ⟨us, ks.zip ws⟩ (ps.zip (g us ws))
  rel : ∀ {vs : List V} {us : List Value} {zs : List V} {ws : List Value}, Vals vs us → Vals zs ws → Vals (gV vs zs) (g us ws)
def tCallK (sp : Sp) (gV : List V → List V → List V) (E : XK) (t tk : TA) : TE := fun σ H Q => t σ H fun vs H1 => tk σ H1 fun zs H2 => sp (gV vs zs) H2 Q E
variable {g : List Value → List Value → List Value} {gV : List V → List V → List V}
end

/-! ### a def's body keeps its promise -/
/-- names: the parameters first -/
structure FnScope (N P : List Str) (sc : Scope) : Prop where
  kind : sc.kind = .function
  co : sc.isCoroutine = false
  gen : sc.isGenerator = false
  nd : N.Nodup
  pre : N.take P.length = P
  par : ∀ x ∈ P, sc.names.lookup x = some .local ∨ sc.names.lookup x = some .cell
  nofree : ∀ y ∈ sc.names, y.2 ≠ .free

theorem bindL_out {kindOf : Str → Option NameKind} {x : Str} : ∀ {binds : List (Str × Value)} {m : Str → Option Value}, (∀ v, (x, v) ∉ binds) → bindL kindOf binds m x = m x
  | [], _, _ => rfl
  | (n, v) :: r, m, h => by
    unfold bindL
    rw [bindL_out fun w hw => h w (List.mem_cons_of_mem _ hw)]
    split
    · have : x ≠ n := by rintro rfl; exact h v List.mem_cons_self
      simp [this]
    · rfl
theorem bindC_out {kindOf : Str → Option NameKind} {x : Str} : ∀ {binds : List (Str × Value)} {m : Str → Option Value}, (∀ v, (x, v) ∉ binds) → bindC kindOf binds m x = m x
  | [], _, _ => rfl
  | (n, v) :: r, m, h => by
    unfold bindC
    rw [bindC_out fun w hw => h w (List.mem_cons_of_mem _ hw)]
    split
    · rfl
    · have : x ≠ n := by rintro rfl; exact h v List.mem_cons_self
      simp [this]
theorem bindL_get {kindOf : Str → Option NameKind} {x : Str} {v : Value} : ∀ {P : List Str} {vs : List Value} {i : Nat} {m : Str → Option Value}, P.Nodup → P[i]? = some x → vs[i]? = some v → kindOf x = some .local →
    bindL kindOf (P.zip vs) m x = some v
  | [], _, _, _, _, h, _, _ => by simp at h
  | _ :: _, [], _, _, _, _, h, _ => by simp at h
  | p :: P, w :: vs, 0, m, nd, h1, h2, hk => by
    simp at h1 h2; subst h1; subst h2
    show bindL kindOf ((p, w) :: P.zip vs) m p = _
    unfold bindL
    rw [bindL_out fun v hv => (List.nodup_cons.mp nd).1 (List.of_mem_zip hv).1, if_pos hk]
    simp
  | p :: P, w :: vs, i + 1, m, nd, h1, h2, hk => by
    show bindL kindOf ((p, w) :: P.zip vs) m x = _
    unfold bindL
    exact bindL_get (i := i) (List.nodup_cons.mp nd).2 (by simpa using h1) (by simpa using h2) hk
theorem bindC_get {kindOf : Str → Option NameKind} {x : Str} {v : Value} : ∀ {P : List Str} {vs : List Value} {i : Nat} {m : Str → Option Value}, P.Nodup → P[i]? = some x → vs[i]? = some v → kindOf x ≠ some .local →
    bindC kindOf (P.zip vs) m x = some v
  | [], _, _, _, _, h, _, _ => by simp at h
  | _ :: _, [], _, _, _, _, h, _ => by simp at h
  | p :: P, w :: vs, 0, m, nd, h1, h2, hk => by
    simp at h1 h2; subst h1; subst h2
    show bindC kindOf ((p, w) :: P.zip vs) m p = _
    unfold bindC
    rw [bindC_out fun v hv => (List.nodup_cons.mp nd).1 (List.of_mem_zip hv).1, if_neg hk]
    simp
  | p :: P, w :: vs, i + 1, m, nd, h1, h2, hk => by
    show bindC kindOf ((p, w) :: P.zip vs) m x = _
    unfold bindC
    exact bindC_get (i := i) (List.nodup_cons.mp nd).2 (by simpa using h1) (by simpa using h2) hk

/-- the names' values at the entry -/
def start (N : List Str) (vs : List V) : St := vs.map some ++ List.replicate (N.length - vs.length) none

/-- the context of a def's body, at its entry; an exception leaves the frame, then lies as CX says -/
def cxOf (CX : CXT) (P : Program) (w : World) (K : PySem.W.Frag) (mg : Str → Option Value) (base : Heap) (N : List Str) (qual : Str) (scope : Scope) (f : Addr) (cd : Value) (A : Around) (outer : List Env) (s : Shared) (H : Hp) (E : XK) : Cx where
  prog := P
  w := w
  K := K
  mg := mg
  base := base
  A := A.deeper (envOfC qual scope s.heap.objs.size f cd)
  N := N
  s₀ := s
  H₀ := H
  env := envOfC qual scope s.heap.objs.size f cd
  outer := outer
  stack := envOfC qual scope s.heap.objs.size f cd :: outer
  ex := []
  calm := true
  fn := fun _ => true
  pn := []
  xe := fun e s' => wpAny (model P w) (A.deeper (envOfC qual scope s.heap.objs.size f cd)) (leaving (envOfC qual scope s.heap.objs.size f cd) e) (fun _ s'' => CX outer H s E e s'') (fun e' s'' => CX outer H s E e' s'') s'

theorem cell_has {sc : Scope} {n : Nat} {x : Str} (h : sc.names.lookup x = some .cell) : ∃ c, (cellsFrom n sc.names []).lookup x = some c := by
  have q := PySem.W.cellsFrom_some sc.names n [] (.inl h)
  exact Option.isSome_iff_exists.mp q

theorem inv_start {CX : CXT} {P : Program} {w : World} {K : PySem.W.Frag} {mg : Str → Option Value} {base : Heap} {N ps : List Str} {qual : Str} {scope : Scope} {f : Addr} {cd : Value} {A : Around} {outer : List Env} {s s1 : Shared} {H : Hp} {E : XK} {us : List Value} {vs : List V}
    (S : FnScope N ps scope) (hd : A.handled = none) (e0 : Env0 P w K mg base A outer s H) (hl : vs.length = ps.length) (r : Vals vs us)
    (x : InCallC s s.heap.objs.size (bindL (envOfC qual scope s.heap.objs.size f cd).kindOf (ps.zip us) fun _ => none) (cellsFrom (s.heap.objs.size + 1) scope.names []) (bindC (envOfC qual scope s.heap.objs.size f cd).kindOf (ps.zip us) fun _ => none) s1) :
    Inv (cxOf CX P w K mg base N qual scope f cd A outer s H E) [] (start N vs) H s1 := by
  have hpl : ps.length ≤ N.length := by have := congrArg List.length S.pre; rw [List.length_take] at this; omega
  obtain ⟨h1, tk, rfl, hk⟩ := x.done
  have noA : ∀ b : Addr, b ∉ (cxOf CX P w K mg base N qual scope f cd A outer s H E).ex := fun b z => absurd (show b ∈ ([] : List Addr) from z) (by simp)
  refine ⟨⟨e0.mod, S.kind, rfl, rfl, Nat.le_refl _, fun y z c h1 h2 => ?_, fun y hy => ?_, fun y c _ h => ?_, fun _ => hd, Around.frames_deeper e0.frames, .inr ⟨rfl, rfl⟩, fun b z => absurd z (noA b), e0.bs, e0.bsz, fun b _ _ => noA b, fun b z => absurd z (noA b), e0.funs, e0.frf⟩,
    rfl, e0.bare, Un.kept hk, ⟨_, x.toInCall.ns, fun i y v h1 h2 h3 => ?_⟩, fun y c h => ⟨_, x.cell y c h⟩, e0.hok.fresh (Nat.le_refl _), fun y c h => ?_, fun p hp => absurd (show p ∈ ([] : List (Addr × Obj)) from hp) (by simp), e0.hok.kept hk, ?_⟩
  · exact name_of_addr x.apart (PySem.mem_of_lookup h1) (PySem.mem_of_lookup h2)
  · have hy : scope.names.lookup y = some .cell ∨ scope.names.lookup y = some .free := hy
    rcases hy with hy | hy
    · exact cell_has hy
    · exact absurd rfl (S.nofree _ (PySem.mem_of_lookup hy))
  · exact Nat.le_of_lt (x.above y c (PySem.mem_of_lookup h))
  · have hi : i < vs.length := by
      unfold start at h2
      by_cases hi : i < vs.length
      · exact hi
      · rw [List.getElem?_append_right (by simpa using hi)] at h2
        rw [List.getElem?_replicate] at h2
        split at h2 <;> cases h2
    have ha : vs[i]? = some v := by
      unfold start at h2
      rw [List.getElem?_append_left (by simpa using hi), List.getElem?_map] at h2
      cases e : vs[i]? with
      | none => rw [e] at h2; cases h2
      | some a => rw [e] at h2; cases h2; rfl
    obtain ⟨u, hu, rv⟩ := r.get ha
    have hp : ps[i]? = some y := by
      rw [← S.pre, List.getElem?_take_of_lt (by omega)]; exact h1
    have ndP : ps.Nodup := by rw [← S.pre]; exact S.nd.sublist (List.take_sublist _ _)
    refine ⟨u, rv, ?_⟩
    rcases S.par y (List.mem_of_getElem? hp) with k | k
    · exact .inl ⟨k, bindL_get ndP hp hu k⟩
    · obtain ⟨c, e⟩ := cell_has (n := s.heap.objs.size + 1) k
      refine .inr ⟨.inl k, c, e, ?_⟩
      have q := x.cell y c e
      rw [bindC_get ndP hp hu (by show scope.names.lookup y ≠ _; rw [k]; decide)] at q
      exact q
  · exact e0.hok.fresh (Nat.le_of_lt (x.above y c (PySem.mem_of_lookup h)))
  · unfold start
    show _ = N.length
    rw [List.length_append, List.length_map, List.length_replicate]
    omega

/-- THE RULE: a def (or a method) of the text, by its body. The body's reading t is chosen for each entry; it is run at the parameters' values -/
theorem fn_of {CX : CXT} {P : Program} {w : World} {K : PySem.W.Frag} {mg : Str → Option Value} {base : Heap} {k : Nat} {f : Addr} {name qual : Str} {params : Arguments} {body : List Stmt} {scope : Scope} {dV kV doc pm cdv ct oc : Value} {an od : Option Addr}
    {osl : Array (Option Value)} {N ps : List Str} {sp : Sp} (lk : K.lookup f = some ⟨oc, od, .func (PySem.W.fnOf name qual params body scope dV kV doc pm an cdv ct), osl⟩) (hcd : PySem.W.codeIn K cdv qual = true) (S : FnScope N ps scope)
    (len : ∀ vs H Q E, sp vs H Q E → vs.length = ps.length)
    (hbody : ∀ (A : Around) (outer : List Env) (s : Shared) (H : Hp) (vs : List V) (Q : VK) (E : XK), Room k (A.deeper (envOfC qual scope s.heap.objs.size f cdv)) → sp vs H Q E →
      ∃ t, PSs (cxOf CX P w K mg base N qual scope f cdv A outer s H E) body t ∧ t { nx := fun _ H' => Q .non H', rt := Q } (start N vs) H) :
    FnOk P w K mg base CX (k + 1) f (PySem.W.fnOf name qual params body scope dV kV doc pm an cdv ct) ps sp := by
  refine ⟨len, fun A outer s H args us vs Q E hr e0 hb r hsp => ?_⟩
  have hl := len _ _ _ _ hsp
  have KX : K.In s.heap := e0.mod.kin.keeps fun b o e => (e0.bs b o e).1
  have lim : s.heap.NoLimit := e0.mod.nolimit.keeps fun b o e => (e0.bs b o e).1
  have hkind : ∀ y ∈ ps.zip us, scope.names.lookup y.1 = some .local ∨ (scope.names.lookup y.1 = some .cell ∧ ((cellsFrom (s.heap.objs.size + 1) scope.names []).lookup y.1).isSome = true) := fun ⟨n, v⟩ hy => by
    rcases S.par n (List.of_mem_zip hy).1 with q | q
    · exact .inl q
    · exact .inr ⟨q, PySem.W.cellsFrom_some _ _ _ (.inl q)⟩
  refine codeAny_call_function hr.depth (KX _ _ lk) rfl S.co S.gen rfl (PySem.W.codeRec_of KX hcd) (hb _ _ _ _ ?_)
  refine wpAny_newFunctionEnv_cells S.kind hkind fun env he s1 x => ?_
  subst he
  refine ⟨lim.keeps x.toInCall.keep, codeAny_func ?_⟩
  obtain ⟨t, ht, hq⟩ := hbody A outer s H vs Q E (hr.deeper _) hsp
  have I : Inv (cxOf CX P w K mg base N qual scope f cdv A outer s H E) [] (start N vs) H s1 := inv_start S hr.hd e0 hl r x
  refine wpAny_mono (ht [] s1 (start N vs) H _ I hq) (fun fl s' hs => ?_) fun e s' hs => hs
  have fin : ∀ {σ' : St} {H' : Hp} {v : V} {u : Value}, Inv (cxOf CX P w K mg base N qual scope f cdv A outer s H E) [] σ' H' s' → RelV v u → Q v H' → CE outer P w H s Q u s' :=
    fun {σ' H' v u} J rv q => ⟨v, H', J.os, J.bare, J.base, J.hok, rv, q⟩
  cases fl with
  | ret u =>
    obtain ⟨v, σ', H', J, rv, q⟩ := hs
    exact fin J rv q
  | next =>
    obtain ⟨σ', H', J, q⟩ := hs
    exact fin (v := V.non) (u := Value.none) J rfl q
  | brk =>
    obtain ⟨_, _, _, q⟩ := hs
    exact False.elim q
  | cont =>
    obtain ⟨_, _, _, q⟩ := hs
    exact False.elim q
end L2

namespace L2
open PySem PySem.Spec PyProof.Rows
section
variable {X : Cx} {x : Str} {p pos : Pos} {e : Expr} {es : List Expr} {t : TA} {id T : String} {r : List V → Hp → VK → Prop}

def tCB (r : List V → Hp → VK → Prop) (t : TA) : TE := fun σ H Q => t σ H fun vs H1 => r vs H1 Q
/-- f(e, ..), f a built-in function -/
theorem pe_callB (hc : CallR X (.builtin id) r) (hg : Gl X x) (hm : X.mg x = none) (hv : bootBuiltins x = some (.builtin id)) (ha : PA X (e :: es) t) (hn : x ≠ "__name__" := by decide) (hdb : (x == ("__debug__" : Str)) = false := by decide)
    (he : starEach (e :: es) X.env = (false, eval e X.env) :: starEach es X.env := by rfl) (hpl : (backTo pos (starEach es X.env)).any (·.1) = false := by rfl) : PE X (.Call (.Name x p) (e :: es) [] pos) (tCB r t) := by
  intro pins s σ H Q I h
  refine wpAny_Call_Name_kw (ld_blt I hg hm hv ?_ hn hdb)
  exact PyProof.Rows.callWith_builtin1 (thn (ha pos pins s σ H _ I h) fun us s1 ⟨vs, H1, I1, r1, q1⟩ => hc pins s1 σ H1 vs us Q I1 r1 q1) he hpl
/-- T(e, ..), T a built-in type -/
theorem pe_callTy (hc : CallR X (.type T) r) (hg : Gl X x) (hm : X.mg x = none) (hv : bootBuiltins x = some (.type T)) (ha : PA X (e :: es) t) (hn : x ≠ "__name__" := by decide) (hdb : (x == ("__debug__" : Str)) = false := by decide)
    (he : starEach (e :: es) X.env = (false, eval e X.env) :: starEach es X.env := by rfl) (hpl : (backTo pos (starEach es X.env)).any (·.1) = false := by rfl) : PE X (.Call (.Name x p) (e :: es) [] pos) (tCB r t) := by
  intro pins s σ H Q I h
  refine wpAny_Call_Name_kw (ld_blt I hg hm hv ?_ hn hdb)
  exact PyProof.Rows.callWith_type1 (thn (ha pos pins s σ H _ I h) fun us s1 ⟨vs, H1, I1, r1, q1⟩ => hc pins s1 σ H1 vs us Q I1 r1 q1) he hpl
end
end L2

namespace HT
open PySem PyProof.Rows

/-- t < u of tuples of ints -/
def lexLt : List Int → List Int → Bool
  | [], [] => false
  | [], _ :: _ => true
  | _ :: _, [] => false
  | x :: xs, y :: ys => if x = y then lexLt xs ys else decide (x < y)


section
open PySem.SeqAt
open PySem.AutoSeq1 (wpAny_loadPart')
open PySem.MeetsSeq PySem.MeetsSeq2 PySem.MeetsSeq3

end

section
variable {prog : Program} {w : World} {A : Around} {E : Value → Shared → Prop} {s : Shared}



/-! ### t[a:b], not the whole -/
/-- a slice's bound as a place among n (d where it is left out) -/
def sIx (n d : Nat) : Option Int → Nat
  | none => d
  | some v => if v < 0 then (v + (n : Int)).toNat else min v.toNat n

end
end HT

namespace L2
open PySem PySem.Spec PyProof.Rows

/-! ### the parts of a slice -/
abbrev TO := St → Hp → (Option Int → Hp → Prop) → Prop
/-- a slice's part (left out, or an int) -/
def PO (X : Cx) (e : Option Expr) (t : TO) : Prop :=
  ∀ (pins : List (Addr × Obj)) (s : Shared) (σ : St) (H : Hp) (Q : Option Int → Hp → Prop), Inv X pins σ H s → t σ H Q →
    wpAny (model X.prog X.w) X.A (evalPart e X.env) (fun u s' => ∃ o H', Inv X pins σ H' s' ∧ IsPart u o ∧ Q o H') X.xe s
def tNoPart : TO := fun _ H Q => Q none H
def tPart (t : TE) : TO := fun σ H Q => t σ H fun x H1 => ∃ i, x = .int i ∧ Q (some i) H1


section
variable {X : Cx} {e : Expr} {te : TE} {lo hi : Option Expr} {tl th : TO} {pos p2 : Pos}


/-- what a slice of a value is, by values: the slice object stands at sl -/
def SlR (X : Cx) (r : V → Option Int → Option Int → Hp → VK → Prop) : Prop :=
  ∀ (pins : List (Addr × Obj)) (s : Shared) (σ : St) (H : Hp) (x : V) (v vl vu : Value) (lo hi : Option Int) (sl : Addr) (Q : VK), Inv X pins σ H s → RelV x v → s.heap.IsSliceOf sl vl vu .none → IsPart vl lo → IsPart vu hi → r x lo hi H Q →
    ∃ T id, typeLookup (.type T) "__getitem__" = pure (some (.builtin id)) ∧ s.TypeIs v T ∧ wpAny (model X.prog X.w) X.A (getItem v (.ref sl)) (EP X pins σ Q) X.xe s
def tSl (r : V → Option Int → Option Int → Hp → VK → Prop) (te : TE) (tl th : TO) : TE := fun σ H Q => te σ H fun x H1 => tl σ H1 fun l H2 => th σ H2 fun u H3 => r x l u H3 Q

/-- the items of xs[lo:hi] -/
def cutV (xs : List V) (lo hi : Option Int) : List V := (xs.drop (HT.sIx xs.length 0 lo)).take (HT.sIx xs.length xs.length hi - HT.sIx xs.length 0 lo)
/-- t[lo:hi], not the whole of it (the whole would be t itself) -/
def rSlT (K : PySem.W.Frag) : V → Option Int → Option Int → Hp → VK → Prop := fun x lo hi H Q => ∃ a xs, x = .ref a ∧ SqT K H a xs ∧
  ¬ (HT.sIx xs.length 0 lo = 0 ∧ HT.sIx xs.length xs.length hi = xs.length) ∧ ∀ p, H p = none → Q (.ref p) (upd H p (.tup (cutV xs lo hi)))

/-! ### t < u, t + u -/
def rLtT (K : PySem.W.Frag) : R2 := fun x y H Q => ∃ a b ns ms, x = .ref a ∧ y = .ref b ∧ SqT K H a (ns.map V.int) ∧ SqT K H b (ms.map V.int) ∧ Q (.bl (HT.lexLt ns ms)) H
/-- t + u, t not empty: u empty gives t itself -/
def rCatT (K : PySem.W.Frag) : R2 := fun x y H Q => ∃ a b xs ys, x = .ref a ∧ y = .ref b ∧ SqT K H a xs ∧ SqT K H b ys ∧ xs ≠ [] ∧ xs.length + ys.length ≤ sizeLine ∧
  (ys = [] → Q (.ref a) H) ∧ (ys ≠ [] → ∀ p, H p = none → Q (.ref p) (upd H p (.tup (xs ++ ys))))
end
end L2

namespace L2
open PySem PySem.Spec PyProof.Rows

/-! ### places -/
/-- the place that an index of any sign means -/
def ixN (n : Nat) (i : Int) : Option Nat := if 0 ≤ i then (if i < n then some i.toNat else none) else if -(n : Int) ≤ i then some (i + n).toNat else none
def atI {α : Type} (xs : List α) (i : Int) : Option α := (ixN xs.length i).bind fun j => xs[j]?
theorem ixN_seq {n : Nat} {i : Int} {j : Nat} (h : ixN n i = some j) : seqIndex? i n = some j ∧ j < n ∧ -(n : Int) ≤ i ∧ i < n := by
  unfold ixN at h
  by_cases h0 : 0 ≤ i
  · rw [if_pos h0] at h
    by_cases h1 : i < n
    · rw [if_pos h1] at h
      have e : i.toNat = j := Option.some.inj h
      exact ⟨by rw [seqIndex_of h0 h1, e], by omega, by omega, h1⟩
    · rw [if_neg h1] at h; cases h
  · rw [if_neg h0] at h
    by_cases h1 : -(n : Int) ≤ i
    · rw [if_pos h1] at h
      have e : (i + n).toNat = j := Option.some.inj h
      exact ⟨by rw [seqIndex_neg (by omega) h1, e], by omega, h1, by omega⟩
    · rw [if_neg h1] at h; cases h
theorem atI_get {α : Type} {xs : List α} {i : Int} {v : α} (h : atI xs i = some v) : ∃ j, seqIndex? i xs.length = some j ∧ xs[j]? = some v ∧ j < xs.length ∧ -(xs.length : Int) ≤ i ∧ i < xs.length := by
  unfold atI at h
  cases e : ixN xs.length i with
  | none => rw [e] at h; cases h
  | some j =>
    rw [e] at h
    obtain ⟨h1, h2, h3, h4⟩ := ixN_seq e
    exact ⟨j, h1, h, h2, h3, h4⟩
theorem atI_nat {α : Type} {xs : List α} {j : Nat} {v : α} (h : xs[j]? = some v) : atI xs (j : Int) = some v := by
  have hj : j < xs.length := (List.getElem?_eq_some_iff.mp h).1
  have e : ixN xs.length (j : Int) = some j := by
    unfold ixN
    rw [if_pos (by omega), if_pos (by omega)]; simp
  unfold atI; rw [e]; exact h

/-! ### what may be subscripted -/
/-- what stands as an index of a plain subscript -/
def PlainIx (b : Expr) : Prop := ∀ o i, subscripted b false o i = operate [o, i] (getItem o i)
/-- a subscript by values -/
def IxR (X : Cx) (r : R2) : Prop :=
  ∀ (value slice : Expr) (pins : List (Addr × Obj)) (s : Shared) (σ : St) (H : Hp) (x y : V) (v u : Value) (Q : VK), Inv X pins σ H s → RelV x v → RelV y u → r x y H Q →
    subscripted slice false v u = operate [v, u] (getItem v u) → wpAny (model X.prog X.w) X.A (subscriptTail value slice v u) (EP X pins σ Q) X.xe s
/-- a call of a builtin's method by values: the receiver, the arguments -/
def MtR (X : Cx) (id : String) (r : V → List V → Hp → VK → Prop) : Prop :=
  ∀ (pins : List (Addr × Obj)) (s : Shared) (σ : St) (H : Hp) (x : V) (xs : List V) (v : Value) (us : List Value) (Q : VK), Inv X pins σ H s → RelV x v → Vals xs us → r x xs H Q →
    wpAny (model X.prog X.w) X.A (call (.builtin id) (v :: us)) (EP X pins σ Q) X.xe s
section
variable {X : Cx} {a b : Expr} {ta tb : TE} {pos : Pos}
/-- a[b] -/
theorem pe_ix {r : R2} (hr : IxR X r) (ha : PE X a ta) (hb : PE X b tb) (hs : PlainIx b) : PE X (.Subscript a b pos) (tOp r ta tb) := by
  intro pins s σ H Q I h
  exact Subscript_ (binT ha hb I h fun v u s2 x y H2 I2 rx ry q => hr a b pins s2 σ H2 x y v u Q I2 rx ry q (hs _ _))

def rIxL (K : PySem.W.Frag) : R2 := fun x y H Q => ∃ p xs i v, x = .ref p ∧ y = .int i ∧ SqL K H p xs ∧ atI xs i = some v ∧ Q v H
def rIxT (K : PySem.W.Frag) : R2 := fun x y H Q => ∃ p xs i v, x = .ref p ∧ y = .int i ∧ SqT K H p xs ∧ atI xs i = some v ∧ Q v H
def rIxS : R2 := fun x y H Q => ∃ z i c, x = .str z ∧ y = .int i ∧ z.length ≤ sizeLine ∧ atI z.cps.toList i = some c ∧ Q (.str ⟨#[c]⟩) H
theorem ix_list : IxR X (rIxL X.K) := by
  intro value slice pins s σ H x y v u Q I rx ry h hs
  obtain ⟨p, xs, i, z, rfl, rfl, hq, he, q⟩ := h
  cases rx
  obtain ⟨t, rfl⟩ := ry
  obtain ⟨its, r, pl, hz⟩ := I.list hq
  obtain ⟨j, h1, h2, h3, h4, h5⟩ := atI_get he
  obtain ⟨w, ew, rw'⟩ := r.get h2
  have hl := r.length
  have hn := line63
  have fin : EP X pins σ Q w s := ⟨z, H, I, rw', q⟩
  by_cases h0 : 0 ≤ i
  · have hj : i.toNat = j := by
      rw [seqIndex_of h0 h5] at h1
      exact Option.some.inj h1
    exact item_listR pl.isList h0 (by omega) (by rw [hj]; simpa using ew) fin hs
  · have hj : (i + (its.toArray.size : Int)).toNat = j := by
      rw [seqIndex_neg (by omega) h4] at h1
      rw [List.size_toArray, ← hl]
      exact Option.some.inj h1
    exact subscriptTail_builtinR (x := w) pl.isList.typeIs slot_list_getitem.lookup
      (wpAny_getItem_list_neg (Q := fun r s' => r = w ∧ EP X pins σ Q r s') pl.isList (by omega) (by rw [List.size_toArray] <;> omega) (by omega) (by rw [hj]; simpa using ew) ⟨rfl, fin⟩) hs
theorem ix_tup : IxR X (rIxT X.K) := by
  intro value slice pins s σ H x y v u Q I rx ry h hs
  obtain ⟨p, xs, i, z, rfl, rfl, hq, he, q⟩ := h
  cases rx
  obtain ⟨t, rfl⟩ := ry
  obtain ⟨its, r, pl, hz⟩ := I.tuple hq
  obtain ⟨j, h1, h2, h3, h4, h5⟩ := atI_get he
  obtain ⟨w, ew, rw'⟩ := r.get h2
  have hl := r.length
  have hn := line63
  have fin : EP X pins σ Q w s := ⟨z, H, I, rw', q⟩
  exact subscriptTail_builtinR (x := w) pl.typeIs slot_tuple_getitem.lookup
    (getItem_tuple (j := j) (Q := fun r s' => r = w ∧ EP X pins σ Q r s') pl (by omega) (by omega) (by rw [List.size_toArray, ← hl]; exact h1) (by simpa using ew) ⟨rfl, fin⟩) hs
/-- list, tuple or str -/
def rIx (K : PySem.W.Frag) : R2 := fun x y H Q => rIxL K x y H Q ∨ rIxT K x y H Q ∨ rIxS x y H Q

/-! ### xs[i] = v, any sign -/
/-- the list's object behind a store -/
theorem mapSeq_set (its : List Value) (n j : Nat) (u : Value) : Obj.mapSeq (·.setIfInBounds j u) { cls := .type "list", data := .seq its.toArray n } = { cls := .type "list", data := .seq (its.set j u).toArray n } := by
  simp [Obj.mapSeq]
theorem Inv.lst {pins : List (Addr × Obj)} {σ : St} {H : Hp} {s : Shared} {p : Addr} {xs : List V} (I : Inv X pins σ H s) (h : H p = some (.lst xs)) :
    ∃ (its : List Value) (n : Nat), Vals xs its ∧ s.heap.get? p = some { cls := .type "list", data := .seq its.toArray n } ∧ xs.length ≤ sizeLine := by
  obtain ⟨z, its, n, r, e⟩ := I.hok p _ h
  exact ⟨its, n, r, e, z⟩
/-- the list at p is written by an update of its object -/
theorem Inv.lstUpd {pins : List (Addr × Obj)} {σ : St} {H : Hp} {s : Shared} {p : Addr} {xs ys : List V} {its its' : List Value} {n n' : Nat} {f : Obj → Obj} (I : Inv X pins σ H s) (h : H p = some (.lst xs))
    (ho : s.heap.get? p = some { cls := .type "list", data := .seq its.toArray n }) (hf : f { cls := .type "list", data := .seq its.toArray n } = { cls := .type "list", data := .seq its'.toArray n' }) (r : Vals ys its') (hz : ys.length ≤ sizeLine) (t : Nat) :
    Inv X pins σ (upd H p (.lst ys)) { s with heap := s.heap.update p f, toks := t } := by
  have e : (s.heap.update p f).get? p = some { cls := .type "list", data := .seq its'.toArray n' } := by
    rw [Heap.get?_update_self f ho (by rw [hf] <;> rfl), hf]
  refine I.write (x := p) (e := p) (by rw [h]; trivial) (.inl rfl) (fun b u hb q => (Heap.get?_update_other _ _ (Ne.symm hb)).trans q) ⟨_, e⟩ ?_
  exact ⟨hz, its', n', r, e⟩
def rSetL : V → V → V → Hp → (Hp → Prop) → Prop := fun o i v H Q => ∃ p xs k j, o = .ref p ∧ i = .int k ∧ H p = some (.lst xs) ∧ ixN xs.length k = some j ∧ Q (upd H p (.lst (xs.set j v)))
theorem set_list : PSet X rSetL := by
  intro pins s σ H o i v ov iv u Q I ro ri rv h
  obtain ⟨p, xs, k, j, rfl, rfl, hp, hj, q⟩ := h
  cases ro
  obtain ⟨t, rfl⟩ := ri
  obtain ⟨its, n, r, ho, hz⟩ := I.lst hp
  obtain ⟨h1, h2, h3, h4⟩ := ixN_seq hj
  have hl := r.length
  have hn := line63
  have I' : Inv X pins σ (upd H p (.lst (xs.set j v))) { s with heap := s.heap.update p (Obj.mapSeq (·.setIfInBounds j u)) } :=
    I.lstUpd hp ho (mapSeq_set its n j u) (r.set rv j) (by rw [List.length_set]; exact hz) s.toks
  by_cases h0 : 0 ≤ k
  · have hk : k.toNat = j := by
      rw [seqIndex_of h0 h4] at h1
      exact Option.some.inj h1
    exact PySem.W.ki_setAt ho h0 (by omega) (by rw [List.size_toArray, ← hl]; exact h4) (by rw [hk]; exact ⟨_, I', q⟩)
  · have hk : (k + (its.toArray.size : Int)).toNat = j := by
      rw [seqIndex_neg (by omega) h3] at h1
      rw [List.size_toArray, ← hl]
      exact Option.some.inj h1
    exact PySem.W.ki_setBack ho (by omega) (by rw [List.size_toArray, ← hl]; exact h3) (by omega) (by rw [hk]; exact ⟨_, I', q⟩)

/-! ### slices -/
/-- xs[lo:hi] of a list: a new list -/
def rSlL (K : PySem.W.Frag) : V → Option Int → Option Int → Hp → VK → Prop := fun x lo hi H Q => ∃ a xs, x = .ref a ∧ SqL K H a xs ∧ ∀ p, H p = none → Q (.ref p) (upd H p (.lst (cutV xs lo hi)))

/-! ### in, not in: flat items -/
def flatV : V → Bool
  | .non => true
  | .bl _ => true
  | .int _ => true
  | .str _ => true
  | _ => false
/-- == of flat values -/
def eqV : V → V → Bool
  | .non, .non => true
  | .bl a, .bl b => a == b
  | .bl a, .int b => (if a then 1 else 0) == b
  | .int a, .bl b => a == (if b then 1 else 0)
  | .int a, .int b => a == b
  | .str a, .str b => a == b
  | _, _ => false
theorem eqAt_V {A : Around} {s : Shared} {y x : V} {u v : Value} (ry : RelV y u) (rx : RelV x v) (fy : flatV y = true) (fx : flatV x = true) : SeqAt.EqAt A s u v (eqV y x) := by
  cases y with
  | non =>
    cases ry
    cases x with
    | non => cases rx; exact SeqAt.EqAt.same _
    | bl b => cases rx; exact SeqAt.EqAt.none_bool b
    | int b => obtain ⟨t, rfl⟩ := rx; exact SeqAt.EqAt.none_int b t
    | str b => obtain ⟨t, rfl⟩ := rx; exact SeqAt.EqAt.none_str b t
    | _ => exact absurd (show false = true from fx) Bool.false_ne_true
  | bl a =>
    cases ry
    cases x with
    | non => cases rx; exact SeqAt.EqAt.bool_none a
    | bl b => cases rx; exact SeqAt.EqAt.bool_bool a b
    | int b => obtain ⟨t, rfl⟩ := rx; exact SeqAt.EqAt.bool_int a b t
    | str b => obtain ⟨t, rfl⟩ := rx; exact SeqAt.EqAt.bool_str a b t
    | _ => exact absurd (show false = true from fx) Bool.false_ne_true
  | int a =>
    obtain ⟨t', rfl⟩ := ry
    cases x with
    | non => cases rx; exact SeqAt.EqAt.int_none a t'
    | bl b => cases rx; exact SeqAt.EqAt.int_bool a t' b
    | int b => obtain ⟨t, rfl⟩ := rx; exact SeqAt.EqAt.int_int a t' b t
    | str b => obtain ⟨t, rfl⟩ := rx; exact SeqAt.EqAt.int_str a t' b t
    | _ => exact absurd (show false = true from fx) Bool.false_ne_true
  | str a =>
    obtain ⟨t', rfl⟩ := ry
    cases x with
    | non => cases rx; exact SeqAt.EqAt.str_none a t'
    | bl b => cases rx; exact SeqAt.EqAt.str_bool a t' b
    | int b => obtain ⟨t, rfl⟩ := rx; exact SeqAt.EqAt.str_int a t' b t
    | str b => obtain ⟨t, rfl⟩ := rx; exact SeqAt.EqAt.str_str a t' b t
    | _ => exact absurd (show false = true from fx) Bool.false_ne_true
  | _ => exact absurd (show false = true from fy) Bool.false_ne_true
/-- the items' answers, read off the values (a value's own answer does not lean on its token) -/
def eqU (x : V) (u : Value) : Bool := match u with
  | .none => eqV .non x
  | .bool b => eqV (.bl b) x
  | .int i _ => eqV (.int i) x
  | .str z _ => eqV (.str z) x
  | _ => false
theorem eqU_of {x y : V} {u : Value} (r : RelV y u) (f : flatV y = true) : eqU x u = eqV y x := by
  cases y with
  | non => cases r; rfl
  | bl b => cases r; rfl
  | int i => obtain ⟨t, rfl⟩ := r; rfl
  | str z => obtain ⟨t, rfl⟩ := r; rfl
  | _ => exact absurd (show false = true from f) Bool.false_ne_true
theorem any_eqU {x : V} : ∀ {xs : List V} {us : List Value}, Vals xs us → xs.all flatV = true → us.any (eqU x) = xs.any fun y => eqV y x
  | _, _, .nil, _ => rfl
  | y :: xs, u :: us, .cons r t, f => by
    rw [List.all_cons, Bool.and_eq_true] at f
    rw [List.any_cons, List.any_cons, eqU_of r f.1, any_eqU t f.2]
theorem mem_eqAt {A : Around} {s : Shared} {x : V} {v : Value} (rx : RelV x v) (fx : flatV x = true) : ∀ {xs : List V} {us : List Value}, Vals xs us → xs.all flatV = true → ∀ u ∈ us, SeqAt.EqAt A s u v (eqU x u)
  | _, _, .nil, _ => fun u hu => by cases hu
  | y :: xs, u :: us, .cons r t, f => fun u' hu => by
    rw [List.all_cons, Bool.and_eq_true] at f
    rcases List.mem_cons.mp hu with rfl | hu
    · rw [eqU_of r f.1]; exact eqAt_V r rx f.1 fx
    · exact mem_eqAt rx fx t f.2 u' hu
def inV (x : V) (xs : List V) : Bool := xs.any fun y => eqV y x
/-- x in a list or tuple of flat items -/
def rIn (K : PySem.W.Frag) (neg : Bool) : R2 := fun x y H Q => ∃ p xs, y = .ref p ∧ (SqL K H p xs ∨ SqT K H p xs) ∧ flatV x = true ∧ xs.all flatV = true ∧ Q (.bl (if neg then !inV x xs else inV x xs)) H
theorem op_notIn_seq : OpR X (compareOp .NotIn) (rIn X.K true) := by
  intro pins s σ H x y v u Q I rx ry h
  obtain ⟨p, xs, rfl, hq, fx, fs, q⟩ := h
  cases ry
  rcases hq with hq | hq
  · obtain ⟨its, r, pl, hz⟩ := I.list hq
    refine SeqAt.notIn_listAt (eqU x) pl.isList (fun w hw => mem_eqAt rx fx r fs w (by simpa using hw)) ⟨.bl _, H, I, rfl, ?_⟩
    rw [show its.toArray.any (eqU x) = its.any (eqU x) by simp, any_eqU r fs]
    exact q
  · obtain ⟨its, r, pl, hz⟩ := I.tuple hq
    refine SeqAt.notIn_tupleAt (eqU x) pl (fun w hw => mem_eqAt rx fx r fs w (by simpa using hw)) ⟨.bl _, H, I, rfl, ?_⟩
    rw [show its.toArray.any (eqU x) = its.any (eqU x) by simp, any_eqU r fs]
    exact q

/-! ### len, list(x), tuple(x) of any list or tuple that is read -/
theorem call_len_seq : CallR X (.builtin "len") (fun xs H Q => ∃ p ys, xs = [.ref p] ∧ (SqL X.K H p ys ∨ SqT X.K H p ys) ∧ Q (.int ys.length) H) := by
  intro pins s σ H xs us Q I r h
  obtain ⟨p, ys, rfl, hq, q⟩ := h
  obtain ⟨u, rfl, rx⟩ := vals1 r
  cases rx
  have hn := line63
  rcases hq with hq | hq
  · obtain ⟨its, r', pl, hz⟩ := I.list hq
    have hlen := r'.length
    exact Calls.call_len_list pl.isList (by simp only [List.size_toArray] <;> omega) ⟨.int ys.length, H, I.tok _, ⟨s.toks + 1, by rw [List.size_toArray, hlen]⟩, q⟩
  · obtain ⟨its, r', pl, hz⟩ := I.tuple hq
    have hlen := r'.length
    exact len_tuple pl (by simp only [List.size_toArray] <;> omega) ⟨.int ys.length, H, I.tok _, ⟨s.toks + 1, by rw [List.size_toArray, hlen]⟩, q⟩
theorem call_list_of : CallR X (.type "list") (fun xs H Q => ∃ p ys, xs = [.ref p] ∧ (SqL X.K H p ys ∨ SqT X.K H p ys) ∧ ∀ l, H l = none → Q (.ref l) (upd H l (.lst ys))) := by
  intro pins s σ H xs us Q I r h
  obtain ⟨p, ys, rfl, hq, q⟩ := h
  obtain ⟨u, rfl, rx⟩ := vals1 r
  cases rx
  have fin : ∀ (its : List Value), Vals ys its → ys.length ≤ sizeLine → ∀ (h' : Heap) (c' : Nat), (∀ b o', s.heap.get? b = some o' → h'.get? b = some o') →
      h'.get? s.heap.objs.size = some { cls := .type "list", dict := none, data := .seq its.toArray c', slots := #[] } → EP X pins σ Q (.ref s.heap.objs.size) { s with heap := h' } := fun its r' hz h' c' kp e =>
    ⟨.ref s.heap.objs.size, _, I.laid (t' := s.toks) kp (Nat.le_refl _) (show ObjOk X.prog X.w _ h' _ (.lst ys) from ⟨hz, its, c', r', e⟩), rfl, q _ (I.hok.fresh (Nat.le_refl _))⟩
  rcases hq with hq | hq
  · obtain ⟨its, r', pl, hz⟩ := I.list hq
    have hlen := r'.length
    obtain ⟨o, ho, hc, n, hd⟩ := pl.isList
    exact call_list_seq p (.inl rfl) ho hc hd (fun h' c' kp e => fin its r' hz h' c' kp e) (by simp only [List.size_toArray] <;> omega)
  · obtain ⟨its, r', pl, hz⟩ := I.tuple hq
    have hlen := r'.length
    obtain ⟨o, ho, hc, n, hd⟩ := pl
    exact call_list_seq p (.inr rfl) ho hc hd (fun h' c' kp e => fin its r' hz h' c' kp e) (by simp only [List.size_toArray] <;> omega)

/-! ### the call of a builtin's method: o.m(..) -/
/-- the value is of that builtin type -/
def tyV (K : PySem.W.Frag) (T : String) (x : V) (H : Hp) : Prop := match x with
  | .str _ => T = "str"
  | .int _ => T = "int"
  | .ref p => (T = "list" ∧ ∃ xs, SqL K H p xs) ∨ (T = "tuple" ∧ ∃ o, K.lookup p = some o ∧ o.cls = .type "tuple" ∧ o.dict = none) ∨
      (T = "dict" ∧ ((∃ kvs, H p = some (.dK kvs)) ∨ ∃ kvs, H p = some (.dT kvs))) ∨ (T = "set" ∧ ∃ S n, H p = some (.set S n))
  | _ => False
theorem tyV_is {pins : List (Addr × Obj)} {σ : St} {H : Hp} {s : Shared} {T : String} {x : V} {v : Value} (I : Inv X pins σ H s) (r : RelV x v) (ty : tyV X.K T x H) :
    s.TypeIs v T ∧ ∀ a, v = .ref a → ∃ ob, s.heap.get? a = some ob ∧ ob.dict = none := by
  cases x with
  | str z =>
    obtain ⟨t, rfl⟩ := r
    cases (show T = "str" from ty)
    exact ⟨typeIs_str s z t, fun _ e => nomatch e⟩
  | int i =>
    obtain ⟨t, rfl⟩ := r
    cases (show T = "int" from ty)
    exact ⟨typeIs_int s i t, fun _ e => nomatch e⟩
  | ref p =>
    cases r
    rcases ty with ⟨rfl, xs, hq⟩ | ⟨rfl, o, hk, hc, hd⟩ | ⟨rfl, hk⟩ | ⟨rfl, S, n, hk⟩
    · obtain ⟨its, _, pl, _⟩ := I.list hq
      refine ⟨pl.isList.typeIs, fun a e => ?_⟩
      cases e
      obtain ⟨o, n, e, c, hd, _⟩ := pl
      exact ⟨o, e, hd⟩
    · refine ⟨⟨o, I.kIn p o hk, hc⟩, fun a e => ?_⟩
      cases e
      exact ⟨o, I.kIn _ o hk, hd⟩
    · have z : ∃ o, s.heap.get? p = some o ∧ o.ExactDict := by
        rcases hk with ⟨kvs, hk⟩ | ⟨kvs, hk⟩
        · obtain ⟨_, _, _, _, o, _, _, e, ex, _⟩ := I.hok p _ hk
          exact ⟨o, e, ex⟩
        · obtain ⟨_, _, _, _, o, _, _, e, ex, _⟩ := I.hok p _ hk
          exact ⟨o, e, ex⟩
      obtain ⟨o, e, ex⟩ := z
      refine ⟨⟨o, e, ex.1⟩, fun a e2 => ?_⟩
      cases e2
      exact ⟨o, e, ex.2.1⟩
    · obtain ⟨o, _, _, _, e, ex, _⟩ := I.hok p _ hk
      refine ⟨⟨o, e, ex.1⟩, fun a e2 => ?_⟩
      cases e2
      exact ⟨o, e, ex.2.1⟩
  | _ => exact False.elim ty
def tBM0 (K : PySem.W.Frag) (T : String) (r : V → List V → Hp → VK → Prop) (to : TE) : TE := fun σ H Q => to σ H fun x H1 => tyV K T x H1 ∧ r x [] H1 Q
def tBM (K : PySem.W.Frag) (T : String) (r : V → List V → Hp → VK → Prop) (to : TE) (t : TA) : TE := fun σ H Q => to σ H fun x H1 => tyV K T x H1 ∧ t σ H1 fun xs H2 => r x xs H2 Q
variable {o e : Expr} {es : List Expr} {to : TE} {t : TA} {name : Str} {apos cpos : Pos} {T id : String} {r : V → List V → Hp → VK → Prop}
theorem pe_bm0 (pa : PlainAttrs T) (slot : Slot T name id) (hty : typeOf (.builtin id) = pure (.type "method_descriptor")) (hm : MtR X id r) (ho : PE X o to)
    (hbase : attributeBase o name X.env (eval o X.env) = eval o X.env := by rfl) (hline : (apos.endLine == cpos.line) = true := by rfl) : PE X (.Call (.Attribute o name apos) [] [] cpos) (tBM0 X.K T r to) := by
  intro pins s σ H Q I h
  refine wpAny_Call_method0_late hbase hline (thn (ho pins s σ H _ I h) fun v s1 ⟨x, H1, I1, r1, ty, q1⟩ => ?_)
  obtain ⟨h1, h2⟩ := tyV_is I1 r1 ty
  exact ⟨T, id, pa, slot, hty, h1, h2, Calls.callWith_builtin rfl (PySem.evalArgs_none (hm pins s1 σ H1 x [] v [] Q I1 r1 .nil q1))⟩
theorem pe_bm (pa : PlainAttrs T) (slot : Slot T name id) (hty : typeOf (.builtin id) = pure (.type "method_descriptor")) (hm : MtR X id r) (ho : PE X o to) (ha : PA X (e :: es) t)
    (hbase : attributeBase o name X.env (eval o X.env) = eval o X.env := by rfl)
    (hfew : ((backTo cpos (starEach (e :: es) X.env)).all (fun x => !x.1) && (backToKw cpos (keywordEach [] X.env)).all (fun x => x.1.isSome)
      && decide ((e :: es).length + ([] : List Keyword).length + (if ([] : List Keyword).isEmpty then 0 else 1) < 30)) = true := by rfl)
    (hline : (apos.endLine == cpos.line) = true := by rfl) (hs : starEach (e :: es) X.env = (false, eval e X.env) :: starEach es X.env := by rfl) (hplain : (backTo cpos (starEach es X.env)).any (·.1) = false := by rfl) :
    PE X (.Call (.Attribute o name apos) (e :: es) [] cpos) (tBM X.K T r to t) := by
  intro pins s σ H Q I h
  refine wpAny_Call_method_late hbase hfew hline rfl (thn (ho pins s σ H _ I h) fun v s1 ⟨x, H1, I1, r1, ty, q1⟩ => ?_)
  obtain ⟨h1, h2⟩ := tyV_is I1 r1 ty
  refine ⟨T, id, pa, slot, hty, h1, h2, ?_⟩
  have hA := ha cpos pins s1 σ H1 _ I1 q1
  rw [hs] at hA ⊢
  refine Calls.callWith_builtin (by show (false || (backTo cpos (starEach es X.env)).any (·.1)) = false; rw [hplain] <;> rfl) (Calls.evalArgs_plain ?_)
  exact thn hA fun us s2 ⟨vs, H2, I2, r2, q2⟩ => hm pins s2 σ H2 x vs v us Q I2 r1 r2 q2
/- xs.append(e), list.index on a module's tuple .. are MtR facts of 06m -/
end
end L2

namespace L2
open PySem PySem.Spec PyProof.Rows

def MtM (X : Cx) (id : String) (r : V → List V → Hp → VK → Prop) : Prop :=
  ∀ (pins : List (Addr × Obj)) (s : Shared) (σ : St) (H : Hp) (x : V) (xs : List V) (v : Value) (us : List Value) (Q : VK), Inv X pins σ H s → RelV x v → Vals xs us → r x xs H Q →
    wpAny (model X.prog X.w) X.A (call (.builtin id) (v :: us)) (EP X pins σ Q) X.xe s

/-! ### lists of values -/
theorem Vals.one : ∀ {x : V} {us : List Value}, Vals [x] us → ∃ u, us = [u] ∧ RelV x u
  | _, _, .cons r .nil => ⟨_, rfl, r⟩
theorem Vals.two : ∀ {x y : V} {us : List Value}, Vals [x, y] us → ∃ u v, us = [u, v] ∧ RelV x u ∧ RelV y v
  | _, _, _, .cons r (.cons q .nil) => ⟨_, _, rfl, r, q⟩
theorem Vals.zero : ∀ {us : List Value}, Vals [] us → us = []
  | _, .nil => rfl
theorem Vals.dropLast {xs : List V} {us : List Value} (h : Vals xs us) : Vals xs.dropLast us.dropLast := by
  induction h with
  | nil => exact .nil
  | cons r t ih =>
    cases t with
    | nil => exact .nil
    | cons q t' => exact .cons r ih
theorem Vals.rep {xs : List V} {us : List Value} (h : Vals xs us) : ∀ k : Nat, Vals (List.replicate k xs).flatten (List.replicate k us).flatten
  | 0 => .nil
  | k + 1 => by
    rw [List.replicate_succ, List.replicate_succ, List.flatten_cons, List.flatten_cons]
    exact Vals.append h (Vals.rep h k)
theorem erase_last {α : Type} (l : List α) : l.eraseIdx (l.length - 1) = l.dropLast := by
  induction l with
  | nil => rfl
  | cons a r ih =>
    cases r with
    | nil => rfl
    | cons b r =>
      have e : (a :: b :: r).length - 1 = ((b :: r).length - 1) + 1 := by
        have h1 : (a :: b :: r).length = r.length + 2 := rfl
        have h2 : (b :: r).length = r.length + 1 := rfl
        omega
      rw [e, List.eraseIdx_cons_succ, ih]
      all_goals rfl
theorem foldl_rep (its : List Value) : ∀ (k : Nat) (acc : List Value),
    List.foldl (fun x1 x2 => x1 ++ x2) acc.toArray (List.replicate k its.toArray) = (acc ++ (List.replicate k its).flatten).toArray
  | 0, acc => by simp
  | k + 1, acc => by
    have e : acc.toArray ++ its.toArray = (acc ++ its).toArray := by simp
    have e2 : (acc ++ its) ++ (List.replicate k its).flatten = acc ++ (List.replicate (k + 1) its).flatten := by
      rw [List.replicate_succ, List.flatten_cons, List.append_assoc]
    rw [← e2, ← foldl_rep its k (acc ++ its), ← e, List.replicate_succ, List.foldl_cons]

section
variable {X : Cx} {pins : List (Addr × Obj)} {σ : St} {H : Hp} {s : Shared} {l b : Addr} {xs ys zs : List V}

/-! ### the two steps: a tracked list is rewritten, a new list is laid -/
theorem Inv.lset {its its' : List Value} {n : Nat} {f : Array Value → Array Value} {t' : Nat} (I : Inv X pins σ H s) (hH : H l = some (.lst xs))
    (e : s.heap.get? l = some { cls := .type "list", data := .seq its.toArray n }) (hf : f its.toArray = its'.toArray) (hv : Vals ys its') (hz : ys.length ≤ sizeLine) :
    Inv X pins σ (upd H l (.lst ys)) { s with heap := s.heap.update l (Obj.mapSeq f), toks := t' } := by
  have q := PySem.IsL.update e f
  rw [hf] at q
  refine I.write (x := l) (e := l) (by rw [hH]; exact trivial) (.inl rfl) (fun b' u hb hu => (Heap.get?_update_other s.heap (Obj.mapSeq f) (Ne.symm hb)).trans hu) ⟨_, q⟩ ?_
  exact ⟨hz, its', _, hv, q⟩
theorem Inv.lnew {its : List Value} {t' : Nat} (I : Inv X pins σ H s) (hv : Vals ys its) (hz : ys.length ≤ sizeLine) :
    Inv X pins σ (upd H s.heap.objs.size (.lst ys)) { s with heap := s.heap.push { cls := .type "list", data := .seq its.toArray }, toks := t' } :=
  I.laid (fun _ _ q => Heap.get?_push_of_some _ q) (Nat.le_refl _) ⟨hz, its, 0, hv, Heap.get?_push_size _ rfl⟩
theorem Inv.fresh (I : Inv X pins σ H s) : H s.heap.objs.size = none := I.hok.fresh (Nat.le_refl _)
theorem Inv.lstM (I : Inv X pins σ H s) (hH : H l = some (.lst xs)) : xs.length ≤ sizeLine ∧ ∃ (its : List Value) (n : Nat), Vals xs its ∧ xs.length = its.length ∧ s.heap.get? l = some { cls := .type "list", data := .seq its.toArray n } := by
  obtain ⟨z, its, n, r, e⟩ := I.hok l _ hH
  exact ⟨z, its, n, r, r.length, e⟩

theorem notLongL {n : Nat} (h : n ≤ sizeLine) : Builtin.List.listTooLong n = false := by
  unfold Builtin.List.listTooLong
  exact decide_eq_false (by omega)
end

section
variable {X : Cx}

/-! ### methods -/
def rAppend : V → List V → Hp → VK → Prop := fun x vs H Q => ∃ l xs y, x = .ref l ∧ vs = [y] ∧ H l = some (.lst xs) ∧ xs.length < sizeLine ∧ Q .non (upd H l (.lst (xs ++ [y])))
theorem mt_append : MtM X "list.append" rAppend := by
  intro pins s σ H x vs v us Q I rx rv h
  obtain ⟨l, xs, y, rfl, rfl, hH, hz, q⟩ := h
  cases rx
  obtain ⟨u, rfl, ru⟩ := rv.one
  obtain ⟨z, its, n, r, hl, e⟩ := I.lstM hH
  refine call_meets F.slot_list_append ⟨_, e, rfl⟩ F.entry_list_append (F.args_list_append_2 _ _) (PySem.list_append l its.toArray n u (by rw [List.size_toArray]; omega)) ⟨e, ?_⟩
  refine ⟨.non, _, I.lset (its' := its ++ [u]) hH e (by simp) (r.append (.cons ru .nil)) ?_, rfl, q⟩
  rw [List.length_append, List.length_singleton]
  omega

def rExtend : V → List V → Hp → VK → Prop := fun x vs H Q => ∃ l b xs zs, x = .ref l ∧ vs = [.ref b] ∧ H l = some (.lst xs) ∧ H b = some (.lst zs) ∧ xs.length + zs.length ≤ sizeLine ∧ Q .non (upd H l (.lst (xs ++ zs)))
theorem mt_extend : MtM X "list.extend" rExtend := by
  intro pins s σ H x vs v us Q I rx rv h
  obtain ⟨l, b, xs, zs, rfl, rfl, hH, hB, hz, q⟩ := h
  cases rx
  obtain ⟨u, rfl, ru⟩ := rv.one
  cases ru
  obtain ⟨z, its, n, r, hl, e⟩ := I.lstM hH
  obtain ⟨z2, its2, n2, r2, hl2, e2⟩ := I.lstM hB
  have hsz : its.toArray.size + its2.toArray.size ≤ sizeLine := by rw [List.size_toArray, List.size_toArray]; omega
  have hlong : ¬ (!its.toArray.isEmpty && Builtin.List.listTooLong (its.toArray.size + its2.toArray.size)) = true := by
    rw [notLongL hsz, Bool.and_false]
    exact Bool.false_ne_true
  refine call_meets F.slot_list_extend ⟨_, e, rfl⟩ F.entry_list_extend (F.args_list_extend_2 _ _)
    (AutoSeq1.list_extend_list_list_0 l its.toArray n b its2.toArray n2 hlong (by rw [List.size_toArray]; omega) (by omega)) ⟨e, e2, ?_⟩
  refine ⟨.non, _, I.lset (its' := its ++ its2) hH e (by simp) (r.append r2) ?_, rfl, q⟩
  rw [List.length_append]
  omega

def rPop : V → List V → Hp → VK → Prop := fun x vs H Q => ∃ l xs y, x = .ref l ∧ vs = [] ∧ H l = some (.lst xs) ∧ xs[xs.length - 1]? = some y ∧ Q y (upd H l (.lst xs.dropLast))
theorem mt_pop : MtM X "list.pop" rPop := by
  intro pins s σ H x vs v us Q I rx rv h
  obtain ⟨l, xs, y, rfl, rfl, hH, hy, q⟩ := h
  cases rx
  have hus := rv.zero
  subst hus
  obtain ⟨z, its, n, r, hl, e⟩ := I.lstM hH
  obtain ⟨u, hu, ru⟩ := r.get hy
  have hy' : its.toArray[its.toArray.size - 1]? = some u := by
    show its.toArray[its.length - 1]? = some u
    rw [← Array.getElem?_toList, ← hl]
    exact hu
  refine call_meets F.slot_list_pop ⟨_, e, rfl⟩ F.entry_list_pop (F.args_list_pop_1 _) (MeetsSeq.list_pop_last l its.toArray n u hy' (by rw [List.size_toArray]; omega)) ⟨e, ?_⟩
  refine ⟨y, _, I.lset (its' := its.dropLast) hH e ?_ r.dropLast ?_, ru, q⟩
  · show its.toArray.eraseIdxIfInBounds (its.toArray.size - 1) = its.dropLast.toArray
    rw [List.size_toArray, List.eraseIdxIfInBounds_toArray, erase_last]
  · rw [List.length_dropLast]
    omega

def rPopAt : V → List V → Hp → VK → Prop := fun x vs H Q => ∃ l xs i k y, x = .ref l ∧ vs = [.int i] ∧ H l = some (.lst xs) ∧ -(2 ^ 63) ≤ i ∧ i < 2 ^ 63 ∧ seqIndex? i xs.length = some k ∧ xs[k]? = some y ∧ Q y (upd H l (.lst (xs.eraseIdx k)))

def rReverse : V → List V → Hp → VK → Prop := fun x vs H Q => ∃ l xs, x = .ref l ∧ vs = [] ∧ H l = some (.lst xs) ∧ Q .non (upd H l (.lst xs.reverse))

def rClear : V → List V → Hp → VK → Prop := fun x vs H Q => ∃ l xs, x = .ref l ∧ vs = [] ∧ H l = some (.lst xs) ∧ Q .non (upd H l (.lst []))

/-! ### list + list, list += list, list * int -/
def rCat : R2 := fun x y H Q => ∃ l b xs zs, x = .ref l ∧ y = .ref b ∧ H l = some (.lst xs) ∧ H b = some (.lst zs) ∧ xs.length + zs.length ≤ sizeLine ∧ ∀ p, H p = none → Q (.ref p) (upd H p (.lst (xs ++ zs)))
theorem op_cat : OpR X (binaryOp .Add) rCat := by
  intro pins s σ H x y v u Q I rx ry h
  obtain ⟨l, b, xs, zs, rfl, rfl, hH, hB, hz, q⟩ := h
  cases rx
  cases ry
  obtain ⟨z, its, n, r, hl, e⟩ := I.lstM hH
  obtain ⟨z2, its2, n2, r2, hl2, e2⟩ := I.lstM hB
  refine PySem.P.add_list e e2 ?_ (by rw [List.size_toArray, List.size_toArray]; omega)
  have ea : its.toArray ++ its2.toArray = (its ++ its2).toArray := by simp
  rw [ea]
  exact ⟨.ref _, _, I.lnew (t' := s.toks) (r.append r2) (by rw [List.length_append]; omega), rfl, q _ I.fresh⟩
/-- a list times an int (a negative one is nothing) -/
def rRep : R2 := fun x y H Q => ∃ l k xs, x = .ref l ∧ y = .int k ∧ H l = some (.lst xs) ∧ -(2 ^ 63) ≤ k ∧ k < 2 ^ 63 ∧ xs.length * k.toNat ≤ sizeLine ∧
  ∀ p, H p = none → Q (.ref p) (upd H p (.lst (List.replicate k.toNat xs).flatten))
theorem len_rep {α : Type} (xs : List α) (k : Nat) : (List.replicate k xs).flatten.length = k * xs.length := by
  induction k with
  | zero => simp
  | succ k ih => rw [List.replicate_succ, List.flatten_cons, List.length_append, ih, Nat.succ_mul, Nat.add_comm]
theorem op_rep : OpR X (binaryOp .Mult) rRep := by
  intro pins s σ H x y v u Q I rx ry h
  obtain ⟨l, k, xs, rfl, rfl, hH, h1, h2, hz, q⟩ := h
  cases rx
  obtain ⟨t, rfl⟩ := ry
  obtain ⟨z, its, n, r, hl, e⟩ := I.lstM hH
  have hlen : its.toArray.size * k.toNat ≤ sizeLine := by rw [List.size_toArray, ← hl]; exact hz
  have hcap : ¬ its.toArray.size * k.toNat > (2 ^ 63 - 1) / 8 := by
    have : (sizeLine : Nat) ≤ (2 ^ 63 - 1) / 8 := by decide
    omega
  have hfit : ¬ (!Builtin.List.listFitsIndex k) = true := by
    rw [fitsIndex_both h1 h2]
    exact Bool.false_ne_true
  have hlong : ¬ Builtin.List.listTooLong (its.toArray.size * k.toNat) = true := by
    rw [notLongL hlen]
    exact Bool.false_ne_true
  have hnew : List.foldl (fun x1 x2 => x1 ++ x2) #[] (List.replicate (if its.toArray.isEmpty = true then 0 else k.toNat) its.toArray) = (List.replicate k.toNat its).flatten.toArray := by
    have f0 : ∀ m : Nat, List.foldl (fun x1 x2 => x1 ++ x2) #[] (List.replicate m its.toArray) = (List.replicate m its).flatten.toArray := fun m => by
      have := foldl_rep its m []
      rw [List.nil_append] at this
      exact this
    rw [f0]
    cases its with
    | nil => simp
    | cons a r' => rw [if_neg (by simp)]
  refine wpAny_binaryOp_repeat_ref (T := "list") (U := "int") (by decide) ⟨_, e, rfl⟩ (fun s' => typeIs_int s' k t) noFill_list_mul F.fills_int_mul F.slot_int_rmul repeat_list F.slot_int_index.lookup
    (call_meets F.slot_int_rmul (typeIs_int s k t) F.entry_int_rmul (F.args_int_rmul_2 _ _) (int___rmul___int_list k t l its.toArray n)
      ⟨e, rfl, ⟨_, e, rfl⟩, call_meets F.slot_list_mul ⟨_, e, rfl⟩ F.entry_list_mul (F.args_list_mul_2 _ _) (AutoListH.list___mul___list_int_3 l its.toArray n k t hfit hcap hlong) ⟨e, ?_⟩⟩)
  rw [hnew]
  exact ⟨.ref _, _, I.lnew (t' := s.toks) (r.rep k.toNat) (by rw [len_rep, Nat.mul_comm]; exact hz), rfl, q _ I.fresh⟩

/-! ### del xs[i] -/
end

/-! ### xs[a:b] = ys -/
section
variable {prog : Program} {w : World} {A : Around} {E : Value → Shared → Prop} {s : Shared}
end

section
variable {X : Cx}
end
end L2

namespace Att
open PySem PySem.W PySem.Calls PyProof.Rows

/-! ### the script -/
theorem ints_of_wellAll {P : Params} {h : Heap} : ∀ (ns : List Int) (vs : List Value), WellAll P h vs (ns.map WData.int) → IntsAre vs ns := by
  intro ns
  induction ns with
  | nil =>
    intro vs w
    rw [List.map_nil] at w
    cases w
    exact .nil
  | cons n ns ih =>
    intro vs w
    rw [List.map_cons] at w
    cases w with
    | cons a b =>
      cases a
      exact .cons _ _ (ih _ b)

theorem script_of {l : OpenLaw} {n : Nat} (hn : l.most = some n) {P : Params} {h : Heap} {args : List WData} {vals : List Value}
    (hpre : l.row.toRowW.claim.pre args = true) (hwl : WellAll P h vals args) :
    ∃ a vs ns, vals = [Value.ref a] ∧ args = [WData.list (ns.map WData.int)] ∧ h.get? a = some { cls := .type "list", data := .seq vs.toArray } ∧ IntsAre vs ns ∧ ns.length ≤ n := by
  have hsh : WShape.hasAll [] args [.list .int] = true := (pre_splitW hpre).1
  have hc : l.pre.holds [] { args := args } = true := (pre_splitW hpre).2
  obtain ⟨d, r, rfl, h1, h2⟩ := hasAllW_cons hsh
  obtain rfl := hasAllW_nil h2
  obtain ⟨xs, rfl, h3⟩ := hasW_list h1
  obtain ⟨ns, rfl⟩ := items_int h3
  have hlen : ns.length ≤ n := by
    unfold OpenLaw.pre at hc
    have h4 : (WTm.not (.lt (.lit (.int (n : Int))) (.len (.arg 0)))).holds [] { args := [.list (ns.map .int)] } = true := by
      have h4 := (holds_andW hc).1
      rw [hn] at h4
      exact h4
    have h5 := condW_of h4 (w_not (w_lt w_lit (w_len_list (w_arg rfl))))
    rw [List.length_map] at h5
    refine Nat.le_of_not_lt fun q => ?_
    have q' : (n : Int) < ((ns.length : Nat) : Int) := by omega
    first
      | (rw [decide_eq_true q'] at h5; exact absurd h5 (by decide))
      | (simp at h5; omega)
  cases hwl with
  | cons w1 w2 =>
    cases w2
    cases w1 with
    | list ho hall => exact ⟨_, _, ns, rfl, rfl, ho, ints_of_wellAll ns _ hall, hlen⟩

theorem post_true (l : OpenLaw) (args : List WData) : l.row.toRowW.claim.post args (.bool true) args = true :=
  postW_of (r := l.row.toRowW) (X := (true == true))
    (show WShape.has [] (.bool true) .bool = true by first | rfl | decide | simp [WShape.has, WShape.arms, WShape.armsAll])
    (show (WTm.eq .res (.lit (.bool true))).value [] { args := args, res := some (.bool true), after := args } = some (.bool (true == true)) from w_eq_bool (w_res rfl) w_lit) rfl

/-! ### the attachment: holds_open's last premise (the goal 'hc' behind k_head) from a wpAny of the law's body -/

/-- the same from a codeAny of the CALL (for a layer whose function contracts speak of calls) -/
theorem attach_call {l : OpenLaw} {n : Nat} {q : Program} {loose : List Str} {XP : (Str → Option Value) → Heap → Prop} {YP : World → Heap → Prop} {d : DefRec}
    (hn : l.most = some n) (hdf : d.params.defaults = [])
    (call : ∀ (w : World) (s₀ s₁ : Shared) (mg mb : Str → Option Value) (fa : Addr) (o : Obj) (pm cd doc : Value) (a : Addr) (vs : List Value) (ns : List Int),
      Ground q loose [] XP w s₀ mg mb s₁.heap → YP w s₁.heap →
      s₁.heap.get? fa = some o → o.data = .func (docDef d.name d.params d.body d.scope pm cd doc) → s₁.heap.CodeRec cd d.name → mg d.name = some (.ref fa) →
      s₁.heap.get? a = some { cls := .type "list", data := .seq vs.toArray } → IntsAre vs ns → ns.length ≤ n → s₁.gens = #[] →
      codeAny (model l.prog w) callerA (.call (.ref fa) ⟨[.ref a], []⟩) (fun r s' => r = .ok (.ret (.bool true)) ∧ OldK s₁.heap s'.heap ∧ s'.os = s₁.os ∧ AllBare s'.gens) s₁) :
    WalkO q loose XP YP l.row.toRowW d [] (fun f vs => PySem.call f vs) := by
  intro w s₀ s₁ mg mb G Y fa o pm cd doc dV kV ho hd hcd hD hmg hg args vals as hpre hlay hrd hwl hlo
  obtain rfl : dV = .none := Dflts.none hD hdf
  obtain rfl : kV = .none := Dflts.noKw hD
  obtain ⟨a, vs, ns, rfl, rfl, hobj, hints, hlen⟩ := script_of hn hpre hwl
  refine enter_call (codeAny_mono (call w s₀ s₁ mg mb fa o pm cd doc a vs ns G Y ho (fd_plain hd) hcd hmg hobj hints hlen hg) fun r s' hq => ?_)
  obtain ⟨rfl, h2, h3, h4⟩ := hq
  exact ⟨.inl ⟨.bool true, .bool true, [], rfl, fun _ => rfl, .bool true, post_true l _, fun _ => ⟨List.Pairwise.nil, fun _ hm => (nomatch hm)⟩⟩, h2, h3, h4⟩


/-! ### rules over ANY heap (no ledger) from facts about the written part K: the library's own take a ledger (News) for what they write -/
section
variable {prog : Program} {w : World} {A : Around} {E : Value → Shared → Prop} {s : Shared} {K : Frag}





/-! the whole heap as the ledger: makes every rule that writes through a ledger a rule over any heap -/
def noObjs (h : Heap) : Heap := { h with objs := #[] }
def ledger (h : Heap) (L d : Addr) : List (Addr × Obj) := (List.range h.objs.size).filterMap fun a => if a = L ∨ a = d then none else (h.get? a).map fun o => (a, o)

end
end Att

namespace L2
open PySem PySem.Spec PyProof.Rows

theorem vals_ints : ∀ {vs : List Value} {ns : List Int}, IntsAre vs ns → Vals (ns.map V.int) vs
  | _, _, .nil => .nil
  | _, _, .cons n t h => .cons ⟨t, rfl⟩ (vals_ints h)

/-- nothing is tracked but the script, known to the object (or it is an object of the module) -/
def Only (H : Hp) : Prop := ∀ b, H b = none ∨ ∃ o xs, H b = some (.frz o (.lst xs))

/-- THE HEAD: the law's promise, at the heap behind the top. F, the promise of the law's def, may use that base is part of the heap (so K.In base, base.Ns mainGlobals mg stand in Mod) -/
theorem law_call {P : Program} {w : World} {K : PySem.W.Frag} {mg mb : Str → Option Value} {CX : CXT} {k : Nat} {fa a : Addr} {fd : FuncData} {x : Str} {sp : Sp} {s₁ : Shared} {vs : List Value} {ns : List Int}
    (KX : K.In s₁.heap) (hns : s₁.heap.Ns mainGlobals mg) (hb : s₁.heap.Ns builtinsNs mb) (hbb : ∀ x : Str, x ≠ "__name__" → mb x = bootBuiltins x) (hlim : s₁.heap.NoLimit) (hg : s₁.gens = #[])
    (ha : s₁.heap.get? a = some { cls := .type "list", data := .seq vs.toArray }) (hi : IntsAre vs ns) (hl : ns.length ≤ sizeLine) (hr : Room k callerA)
    (F : ∀ base : Heap, K.In base → base.Ns mainGlobals mg → FnOk P w K mg base CX k fa fd [x] sp) (hbind : ∀ (s : Shared) (u : Value), BindsTo s fd ⟨[u], []⟩ [(x, u)])
    (hsp : ∀ H : Hp, Only H → SqL K H a (ns.map V.int) → sp [.ref a] H (fun v _ => v = .bl true) fun _ _ _ => False)
    (hCX : ∀ H e s', CX [] H s₁ (fun _ _ _ => False) e s' → False) :
    codeAny (model P w) callerA (.call (.ref fa) ⟨[.ref a], []⟩) (fun r s' => r = .ok (.ret (.bool true)) ∧ OldK s₁.heap s'.heap ∧ s'.os = s₁.os ∧ AllBare s'.gens) s₁ := by
  have rv := vals_ints hi
  have lenV := hi.length
  -- from an abstract heap in which nothing but the script may be tracked
  have core : ∀ H : Hp, Only H → SqL K H a (ns.map V.int) → HOk P w H s₁.heap → (∀ b, H b ≠ none → b = a) → (H a ≠ none → K.lookup a = none) →
      codeAny (model P w) callerA (.call (.ref fa) ⟨[.ref a], []⟩) (fun r s' => r = .ok (.ret (.bool true)) ∧ OldK s₁.heap s'.heap ∧ s'.os = s₁.os ∧ AllBare s'.gens) s₁ := by
    intro H hO hS hok hA hK
    have base_of : ∀ {b : Addr} {o : Obj}, s₁.heap.get? b = some o → H b = none → (hidT s₁.heap H).get? b = some o := fun e n => hidT_get e n
    have noA : ∀ {b : Addr} {o : Obj} {es : Array DictEntry} {ep : Nat}, s₁.heap.get? b = some o → o.data = .dict es ep → H b = none := fun {b o es ep} e d => by
      cases q : H b with
      | none => rfl
      | some u =>
        have e' : b = a := hA b (by rw [q]; simp)
        subst e'
        rw [ha] at e; cases e
        have d' : Data.seq vs.toArray _ = Data.dict es ep := d
        cases d'
    have nsK : ∀ {b : Addr} {m : Str → Option Value}, s₁.heap.Ns b m → (hidT s₁.heap H).Ns b m := fun {b m} ⟨o, es, ep, e, d, r⟩ => ⟨o, es, ep, base_of e (noA e d), d, r⟩
    have hKb : K.In (hidT s₁.heap H) := fun b o e => base_of (KX b o e) (by
      cases q : H b with
      | none => rfl
      | some u =>
        have e' : b = a := hA b (by rw [q]; simp)
        subst e'
        rw [hK (by rw [q]; simp)] at e; cases e)
    have hM : Mod K mg (hidT s₁.heap H) := ⟨hKb, nsK hns, ⟨mb, nsK hb, hbb⟩, let ⟨mc, h1, h2⟩ := hlim; ⟨mc, nsK h1, h2⟩⟩
    have e0 : Env0 P w K mg (hidT s₁.heap H) callerA [] s₁ H := ⟨rfl, hM, fun b o e => of_hidT e, Nat.le_of_eq (hidT_size _ _), trivial, fun b hb => absurd (show b ∈ ([] : List Addr) from hb) (by simp), hok, .of_eq hg⟩
    refine codeAny_mono ((F _ hKb (nsK hns)).run callerA [] s₁ H ⟨[.ref a], []⟩ [.ref a] [.ref a] _ _ hr e0 (hbind s₁ (.ref a)) (.cons rfl .nil) (hsp H hO hS)) fun r s' h => ?_
    cases r with
    | error e => exact (hCX H e s' h).elim
    | ok fl =>
      cases fl with
      | next => exact False.elim h
      | brk => exact False.elim h
      | cont => exact False.elim h
      | ret u =>
        obtain ⟨v, H', os, bare, un, hok', r', q⟩ := h
        have q' : v = .bl true := q
        subst q'
        obtain rfl : u = Value.bool true := r'
        refine ⟨rfl, OldK.of_keep fun b o e => ?_, os, bare⟩
        cases q : H b with
        | none => exact un.keep b o e q (by intro z; exact absurd (show b ∈ ([] : List Addr) from z) (by simp)) (by simp)
        | some u =>
          rcases hO b with z | ⟨ob, xs, z⟩
          · rw [q] at z; cases z
          · have z2 := un.frzs b ob _ z
            obtain ⟨e1, _⟩ := hok b _ z
            obtain ⟨e2, _⟩ := hok' b _ z2
            rw [e] at e1; cases e1
            exact e2
  cases hk : K.lookup a with
  | some o =>
    -- the script is one of the module's own objects
    have e := KX a o hk
    rw [ha] at e
    cases e
    refine core (fun _ => none) (fun _ => .inl rfl) (.inr ⟨_, vs.toArray, _, hk, rfl, rfl, rfl, by rw [List.size_toArray, lenV]; exact hl, by simpa using rv⟩) (fun b u z => by have z' : (none : Option HO) = some u := z; cases z') (fun b z => absurd rfl z) fun z => absurd rfl z
  | none =>
    refine core (fun b => if b = a then some (.frz { cls := .type "list", data := .seq vs.toArray } (.lst (ns.map V.int))) else none) (fun b => ?_) (.inl (.inr ⟨{ cls := .type "list", data := .seq vs.toArray }, if_pos rfl⟩)) (fun b u z => ?_) (fun b z => ?_) fun _ => hk
    · by_cases hb : b = a
      · exact .inr ⟨_, _, if_pos hb⟩
      · exact .inl (if_neg hb)
    · by_cases hb : b = a
      · have z' := (if_pos hb).symm.trans z
        cases z'
        subst hb
        exact ⟨ha, by rw [List.length_map]; exact hl, vs, _, rv, ha⟩
      · have z' := (if_neg hb).symm.trans z
        cases z'
    · by_cases hb : b = a
      · exact hb
      · exact absurd (if_neg hb) z
end L2

namespace L2
open PySem PySem.Spec PyProof.Rows

abbrev KOf {K : PySem.W.Frag} {h : Heap} (_ : K.In h) : PySem.W.Frag := K

/-- the goal that k_head leaves (case hc), from the law's promise. F gives the function object fd (K's own) once, then the promise over every base -/
theorem walk_of {l : PySem.W.OpenLaw} {n k : Nat} {q : Program} {loose : List Str} {XP : (Str → Option Value) → Heap → Prop} {YP : World → Heap → Prop} {d : DefRec} {K : Params → PySem.W.Frag} {CX : World → CXT} {sp : World → Sp} {x : Str}
    (hn : l.most = some n) (hn2 : n ≤ sizeLine) (hdf : d.params.defaults = []) (hr : Room k callerA)
    (hY : ∀ (w : World) (h : Heap), YP w h → (K w.params).In h)
    (F : ∀ (w : World) (mg : Str → Option Value) (fa : Addr) (h : Heap), (K w.params).In h → h.Ns mainGlobals mg → mg d.name = some (.ref fa) →
      ∃ fd : FuncData, (∀ (s : Shared) (u : Value), BindsTo s fd ⟨[u], []⟩ [(x, u)]) ∧
        ∀ base : Heap, (K w.params).In base → base.Ns mainGlobals mg → FnOk l.prog w (K w.params) mg base (CX w) k fa fd [x] (sp w))
    (hsp : ∀ (w : World) (H : Hp) (a : Addr) (ns : List Int), ns.length ≤ n → Only H → SqL (K w.params) H a (ns.map V.int) → sp w [.ref a] H (fun v _ => v = .bl true) fun _ _ _ => False)
    (hCX : ∀ (w : World) (H : Hp) (s : Shared) (e : Value) (s' : Shared), CX w [] H s (fun _ _ _ => False) e s' → False) :
    PySem.W.WalkO q loose XP YP l.row.toRowW d [] (fun f vs => PySem.call f vs) := by
  refine Att.attach_call hn hdf fun w s₀ s₁ mg mb fa o pm cd doc a vs ns G Y ho hd hcd hmg hobj hints hlen hg => ?_
  have KX := hY w _ Y
  obtain ⟨fd, hb, hF⟩ := F w mg fa _ KX G.T.g hmg
  exact law_call KX G.T.g G.T.b G.T.builtins G.T.nolimit hg hobj hints (Nat.le_trans hlen hn2) hr hF hb (fun H hO hS => hsp w H a ns hlen hO hS) fun H e s' => hCX w H s₁ e s'
end L2

/- THE LAST THEOREM (shape; LID, My.* are yours):
   My.Adr: a structure of the addresses that your layer names (classes, functions); My.Txt K t: a structure (Prop) of the equations over K;
   My.txt_mk : {K} {implicit addresses ..} (e1 : nsIn K mainGlobals "law" = some (some (.ref f))) (e2 : K.lookup f = some ⟨oc, od, .func (fnOf "law" "law" params body scope dV kV doc pm an cdv ct), sl⟩) (e3 : codeIn K cdv "law" = true) .. : ∃ t, My.Txt K t

set_option maxRecDepth 100000 in
set_option maxHeartbeats 0 in
theorem PySem.Challenge.cw_LID_holds : PySem.Challenge.rw_LID.Holds := by
  w_on; o_law; k_head; (case hw => w_witness2)
  k_fill
  refine L2.walk_of (l := PySem.Challenge.rw_LID) (n := 63) (k := 40) (x := "script") (CX := fun w => ..) (sp := fun _ => My.sp_law) rfl (by decide) rfl ⟨rfl, by decide, by decide⟩ (fun w h Y => PySem.W.kIn_of Y) ?F ?S ?C
  case F =>
    intro w mg fa h KX G hmg
    have T : ∃ t, My.Txt (L2.KOf KX) t := by
      dsimp only [L2.KOf]                          -- K must stand as «<heap const> w.params» for k_is
      refine' My.txt_mk ?e1 ?e2 ?e3 ..
      (case e1 => PySem.W.k_is)                    -- in the order: a name -> its address -> its object -> its parts
      (case e2 => PySem.W.k_is)
      ..
    obtain ⟨t, T⟩ := T
    have e0 := hmg.symm.trans (PySem.W.mg_of KX G T.law)
    cases e0                                       -- fa is the law's own address
    exact ⟨_, fun s u => .of_eq rfl, fun base kb nb => My.law_fn T kb nb⟩     -- if «.of_eq rfl» comes too early: refine' ⟨_, ?b, fun base kb nb => My.law_fn T kb nb⟩; exact fun s u => .of_eq rfl
  case S => exact fun w H a ns hl hO hS => ..
  case C => exact ..
(the tactic k_is has no namespace: write k_is) -/

/-! SHORT WORDS over the layer: a def of the text, its body, what a loop and a test want. -/
namespace L2
open PySem PySem.Spec PyProof.Rows

/-! ### the text by places -/
/-- the j-th statement of a class's body -/
def inClass (s : Stmt) (j : Nat) : Stmt := match s with
  | .ClassDef _ _ _ body _ _ _ _ _ _ _ => body.getD j (.Pass ⟨0, 0, 0, 0⟩)
  | _ => .Pass ⟨0, 0, 0, 0⟩
def defArgs (s : Stmt) : Arguments := match s with
  | .FunctionDef _ a _ _ _ _ _ _ _ _ => a
  | _ => { posonlyargs := [], args := [], vararg := none, kwonlyargs := [], kw_defaults := [], kwarg := none, defaults := [] }
def defBody (s : Stmt) : List Stmt := match s with
  | .FunctionDef _ _ b _ _ _ _ _ _ _ => b
  | _ => []
def defScope (s : Stmt) : Scope := match s with
  | .FunctionDef _ _ _ _ _ _ sc _ _ _ => sc
  | _ => { kind := .function, names := [], isGenerator := false, isCoroutine := false }

/-! ### no exception leaves a def -/
abbrev CX0 : CXT := fun _ _ _ _ _ _ => False
abbrev E0 : XK := fun _ _ _ => False
theorem pass0 {X : Cx} : Passes CX0 X E0 := fun _ _ _ _ _ _ _ h => h.elim

/-! ### a def (or method) of the text as it stands behind the top -/
structure Fun (K : PySem.W.Frag) (x qual : Str) (st : Stmt) (f : Addr) (fd : FuncData) : Prop where
  ex : ∃ (oc : Value) (od : Option Addr) (kV doc pm : Value) (an : Option Addr) (cdv ct : Value) (osl : Array (Option Value)),
    fd = PySem.W.fnOf x qual (defArgs st) (defBody st) (defScope st) .none kV doc pm an cdv ct ∧ K.lookup f = some ⟨oc, od, .func fd, osl⟩ ∧ PySem.W.codeIn K cdv qual = true
  kp : PySem.W.keepIn K (.ref f) = true
section
variable {P : Program} {w : World} {K : PySem.W.Frag} {mg : Str → Option Value} {base : Heap}
end
theorem hu_of {A : Around} {k : Nat} (hr : Room k A) : A.units + 1 < cLine := Nat.lt_of_le_of_lt (Nat.add_le_add_left (by decide : 1 ≤ 64) _) hr.units
theorem small1000 {n : Nat} (h : n ≤ 1000) : n < sizeLine := Nat.lt_of_le_of_lt h (by decide)

/-! ### expressions in short: the name that stands in the i-th slot -/
section
variable {X : Cx}
theorem pv (i : Nat) {x : Str} {pos : Pos} (hN : X.N[i]? = some x := by rfl) (hv : Vis X.env.scope x := by first | exact Or.inl rfl | exact Or.inr (Or.inl rfl) | exact Or.inr (Or.inr rfl)) (hd : (x == ("__debug__" : Str)) = false := by decide)
    (hcd : (x == ("__classdict__" : Str)) = false := by decide) : PE X (.Name x pos) (tVar i) := pe_var hN hv hd hcd
end

/-! ### tests -/
theorem iteF {A B : Prop} (h : B) : if false = true then A else B := by
  rw [if_neg Bool.false_ne_true]
  exact h
theorem iteT {A B : Prop} (h : A) : if true = true then A else B := by
  rw [if_pos rfl]
  exact h
theorem ite2 {c A B : Prop} [Decidable c] (h1 : c → A) (h2 : ¬ c → B) : if c then A else B := by
  by_cases h : c
  · rw [if_pos h]
    exact h1 h
  · rw [if_neg h]
    exact h2 h

/-! ### heaps -/
/-- all that was tracked is as it was -/
def Same (H H' : Hp) : Prop := ∀ b o, H b = some o → H' b = some o
theorem Same.refl (H : Hp) : Same H H := fun _ _ h => h
theorem Same.trans {H H1 H2 : Hp} (a : Same H H1) (b : Same H1 H2) : Same H H2 := fun c o h => b c o (a c o h)
theorem Same.free {H H' : Hp} (e : Same H H') {l : Addr} (h : H' l = Option.none) : H l = Option.none := by
  cases q : H l with
  | none => rfl
  | some o =>
    rw [e l o q] at h
    cases h
theorem Same.seq {K : PySem.W.Frag} {H H' : Hp} {a : Addr} {xs : List V} (e : Same H H') (h : SqL K H a xs) : SqL K H' a xs := by
  rcases h with (h | ⟨o, h⟩) | h
  · exact .inl (.inl (e _ _ h))
  · exact .inl (.inr ⟨o, e _ _ h⟩)
  · exact .inr h

end L2

set_option Elab.async false
set_option linter.all false
set_option maxRecDepth 100000
namespace L2
open PySem PySem.Spec PyProof.Rows

/-! ## A list comprehension of one clause, in a def's body -/
/-- the cells a block closes over -/
def closAcc (env : Env) : List (Str × NameKind) → List (Str × Addr) → List (Str × Addr)
  | [], acc => acc
  | (n, k) :: r, acc => if k == .free then (match env.cells.lookup n with | some c => closAcc env r ((n, c) :: acc) | none => closAcc env r acc) else closAcc env r acc
def closOf (scope : Scope) (env : Env) : List (Str × Addr) := closAcc env scope.names []

theorem closAcc_in {env : Env} : ∀ (ns : List (Str × NameKind)) (acc : List (Str × Addr)), (∀ x c, (x, c) ∈ acc → env.cells.lookup x = some c) → ∀ x c, (x, c) ∈ closAcc env ns acc → env.cells.lookup x = some c
  | [], acc, h, x, c, hm => h x c hm
  | (n, k) :: r, acc, h, x, c, hm => by
    unfold closAcc at hm
    split at hm
    · split at hm
      · rename_i c' e
        refine closAcc_in r _ (fun y d hy => ?_) x c hm
        rcases List.mem_cons.mp hy with z | z
        · cases z; exact e
        · exact h y d z
      · exact closAcc_in r acc h x c hm
    · exact closAcc_in r acc h x c hm
theorem lookup_mem {α β : Type} [BEq α] [LawfulBEq α] : ∀ {l : List (α × β)} {x : α} {c : β}, l.lookup x = some c → (x, c) ∈ l
  | [], _, _, h => by simp at h
  | (y, d) :: r, x, c, h => by
    rw [List.lookup_cons] at h
    cases e : x == y with
    | true => rw [e] at h; simp at h; rw [eq_of_beq e, h]; exact List.mem_cons_self
    | false => rw [e] at h; exact List.mem_cons_of_mem _ (lookup_mem h)
theorem mem_lookup {α β : Type} [BEq α] [LawfulBEq α] : ∀ {l : List (α × β)} {x : α} {c : β}, (x, c) ∈ l → ∃ d, l.lookup x = some d
  | (y, d) :: r, x, c, h => by
    rw [List.lookup_cons]
    cases e : x == y with
    | true => exact ⟨d, rfl⟩
    | false =>
      rcases List.mem_cons.mp h with z | z
      · cases z; simp at e
      · exact mem_lookup z
theorem clos_sub {scope : Scope} {env : Env} {x : Str} {c : Addr} (h : (closOf scope env).lookup x = some c) : env.cells.lookup x = some c :=
  closAcc_in scope.names [] (fun _ _ z => nomatch z) x c (lookup_mem h)
theorem closAcc_acc {env : Env} : ∀ (ns : List (Str × NameKind)) (acc : List (Str × Addr)) (p : Str × Addr), p ∈ acc → p ∈ closAcc env ns acc
  | [], _, _, h => h
  | (n, k) :: r, acc, p, h => by
    unfold closAcc
    split
    · split
      · exact closAcc_acc r _ p (List.mem_cons_of_mem _ h)
      · exact closAcc_acc r acc p h
    · exact closAcc_acc r acc p h
theorem closAcc_has {env : Env} : ∀ (ns : List (Str × NameKind)) (acc : List (Str × Addr)) (x : Str) (c : Addr), (x, NameKind.free) ∈ ns → env.cells.lookup x = some c → (x, c) ∈ closAcc env ns acc
  | (n, k) :: r, acc, x, c, h, e => by
    unfold closAcc
    rcases List.mem_cons.mp h with z | z
    · cases z
      rw [if_pos (by decide), e]
      exact closAcc_acc r _ _ List.mem_cons_self
    · split
      · split
        · exact closAcc_has r _ x c z e
        · exact closAcc_has r acc x c z e
      · exact closAcc_has r acc x c z e
theorem clos_eq {scope : Scope} {env : Env} {x : Str} {c : Addr} (h : scope.names.lookup x = some .free) (e : env.cells.lookup x = some c) : (closOf scope env).lookup x = some c := by
  obtain ⟨d, hd⟩ := mem_lookup (closAcc_has scope.names [] x c (lookup_mem h) e)
  have q := clos_sub (scope := scope) hd
  rw [e] at q
  cases q
  exact hd
theorem forIn_clos {env : Env} : ∀ (ns : List (Str × NameKind)) (acc : List (Str × Addr)), (∀ x ∈ ns, x.2 = .free → ∃ c, env.cells.lookup x.1 = some c) →
    (forIn ns acc fun (x : Str × NameKind) (r : List (Str × Addr)) => if (x.2 == NameKind.free) = true then (do let a ← cellOf env x.1; pure (ForInStep.yield ((x.1, a) :: r))) else (pure (ForInStep.yield r) : Sem _)) = pure (closAcc env ns acc)
  | [], acc, _ => rfl
  | (n, k) :: r, acc, h => by
    rw [List.forIn_cons]
    unfold closAcc
    by_cases hk : (k == NameKind.free) = true
    · obtain ⟨c, hc⟩ := h (n, k) List.mem_cons_self (by simpa using hk)
      dsimp only at hc ⊢
      rw [if_pos hk, if_pos hk]
      unfold cellOf
      rw [hc]
      show _ = pure (closAcc env r ((n, c) :: acc))
      rw [← forIn_clos r ((n, c) :: acc) fun x hx => h x (List.mem_cons_of_mem _ hx)]
      rfl
    · dsimp only
      rw [if_neg hk, if_neg hk, ← forIn_clos r acc fun x hx => h x (List.mem_cons_of_mem _ hx)]
      rfl
theorem clos_ok {scope : Scope} {env : Env} (h : ∀ x ∈ scope.names, x.2 = .free → ∃ c, env.cells.lookup x.1 = some c) : closureFor scope env = pure (closOf scope env) := by
  have q := forIn_clos (env := env) scope.names [] h
  unfold closureFor
  exact congrArg (fun m => m >>= fun cs => pure cs) q |>.trans (by rfl)
end L2

set_option Elab.async false
set_option linter.all false
set_option maxRecDepth 100000
namespace L2
open PySem PySem.Spec PyProof.Rows

/-- the loop of a list comprehension's block, whatever its target -/
theorem compLoop_any {prog : Program} {w : World} {A : Around} {R : Result → Shared → Prop} {s : Shared} {elt target iter : Expr} {ifs : List Expr} {scope : Scope} {pos : Pos} {it acc : Value} {env : Env} (I : Nat → Shared → Prop)
    (turn : ∀ n s, I n s → wpAny (model prog w) A (pyNext it) (fun r s₁ => match r with
      | none => R (.ok .next) s₁
      | some v => wpAny (model prog w) A (letOwnedTupleGo target it v) (fun _ s₁' => wpAny (model prog w) A (assign target env v) (fun _ s₂ =>
          wpAny (model prog w) A (forIn ifs true fun c r => if r = true then do let ok ← isTrue c env (eval c env); pure (ForInStep.yield ok) else pure (ForInStep.yield r)) (fun ok s₃ =>
            if ok = true then wpAny (model prog w) A (eval elt env) (fun x s₄ =>
              wpAny (model prog w) A (call (.builtin "list.append") [acc, x]) (fun _ s₅ => ∃ m, m < n ∧ I m s₅) (fun _ _ => False) s₄) (fun _ _ => False) s₃
            else ∃ m, m < n ∧ I m s₃) (fun _ _ => False) s₂) (fun _ _ => False) s₁') (fun _ _ => False) s₁) (fun _ _ => False) s)
    (n : Nat) (h : I n s) : codeAny (model prog w) A (.compLoop (.ListComp elt [⟨target, iter, ifs, 0⟩] scope pos) 0 it acc env) R s := by
  refine codeAny_loop rfl I (fun n s hI => ?_) n h
  show wpAny _ A ((compTurn (.ListComp elt [⟨target, iter, ifs, 0⟩] scope pos) 0 it acc env).onRaise (fun x => do noteFrame x env; theTreesLotGoes x)) _ _ s
  refine wpAny_noted ?_
  rw [compTurn_list]
  refine wpAny_bind (wpAny_standAt (wpAny_bind (wpAny_mono (turn n s hI) (fun r s₁ h₁ => ?_) fun _ _ h' => h'.elim)))
  cases r with
  | none => exact wpAny_pure h₁
  | some v =>
    refine wpAny_bind (wpAny_mono h₁ (fun _ s₁' h₁' => ?_) fun _ _ h' => h'.elim)
    refine wpAny_bind (wpAny_mono h₁' (fun _ s₂ h₂ => wpAny_bind (wpAny_mono h₂ (fun ok s₃ h₃ => ?_) fun _ _ h' => h'.elim)) fun _ _ h' => h'.elim)
    cases ok with
    | false => exact wpAny_pure ⟨rfl, h₃⟩
    | true =>
      exact wpAny_bind (wpAny_bind (wpAny_mono h₃ (fun x s₄ h₄ => wpAny_bind (wpAny_mono h₄ (fun _ s₅ h₅ => wpAny_pure (wpAny_pure ⟨rfl, h₅⟩)) fun _ _ h' => h'.elim)) fun _ _ h' => h'.elim))

/-- the clauses' tests -/
def PF (X : Cx) (ifs : List Expr) (t : TT) : Prop :=
  ∀ (pins : List (Addr × Obj)) (s : Shared) (σ : St) (H : Hp) (Q : Bool → Hp → Prop), Inv X pins σ H s → t σ H Q →
    wpAny (model X.prog X.w) X.A (forIn ifs true fun c r => if r = true then do let ok ← isTrue c X.env (eval c X.env); pure (ForInStep.yield ok) else pure (ForInStep.yield r)) (TP X pins σ Q) X.xe s
def tAlways : TT := fun _ H Q => Q true H
theorem pf_nil {X : Cx} : PF X [] tAlways := fun pins s σ H Q I h => wpAny_pure ⟨H, I, h⟩
theorem pf_one {X : Cx} {c : Expr} {t : TT} (h : PT X c t) : PF X [c] t := fun pins s σ H Q I hw => by
  rw [List.forIn_cons, if_pos rfl]
  refine wpAny_bind (wpAny_bind (thn (h pins s σ H _ I hw) fun b s1 q => ?_))
  exact wpAny_pure (wpAny_pure q)

/-- the block's context -/
def compCx (X : Cx) (scope : Scope) (N' : List Str) (C : Addr) (s : Shared) (H : Hp) (fp : List Addr) (pins : List (Addr × Obj)) : Cx :=
  { prog := X.prog, w := X.w, K := X.K, mg := X.mg, base := X.base, A := X.A, N := N', s₀ := s, H₀ := H, env := compEnvC scope (closOf scope X.env) C X.env, outer := X.stack, stack := X.stack, ex := fp, fn := fun _ => false, calm := X.calm,
    pn := X.pn ++ pins, xe := fun _ _ => False }
/-- the block's names ahead of its first turn: js says where each stands in the def's -/
def compSt (js : List (Option Nat)) (σ : St) : St := js.map fun j => match j with
  | none => none
  | some j => match σ[j]? with
    | some v => v
    | none => none
def jsOk (N N' : List Str) (scope : Scope) (js : List (Option Nat)) : Bool :=
  (N'.zip js).all fun p => match p.2 with
    | none => true
    | some j => decide (N[j]? = some p.1) && decide (scope.names.lookup p.1 = some .free)
/-- what is seen of the block's names by looking at the text -/
structure CompOk (X : Cx) (scope : Scope) (N' : List Str) (js : List (Option Nat)) : Prop where
  kind : scope.kind = .function
  nocell : ∀ y ∈ scope.names, y.2 ≠ .cell
  loc : ∀ y ∈ scope.names, y.2 = .local → scope.names.lookup y.1 = some .local
  free : ∀ y ∈ scope.names, y.2 = .free → X.env.scope.names.lookup y.1 = some .cell
  len : js.length = N'.length
  jok : jsOk X.N N' scope js = true

theorem relabel_lookup {env : Env} {x : Str} {k : NameKind} : ∀ {names : List (Str × NameKind)},
    (names.map fun (n, k) => if (k == NameKind.free && env.scope.kind == .function && env.kindOf n == some .cell) then (n, NameKind.cell) else (n, k)).lookup x = some k →
    names.lookup x = some k ∨ (names.lookup x = some .free ∧ k = .cell)
  | [], h => by simp at h
  | (n, k') :: r, h => by
    have ih := @relabel_lookup env x k r
    have h' : List.lookup x ((if (k' == NameKind.free && env.scope.kind == .function && env.kindOf n == some .cell) = true then (n, NameKind.cell) else (n, k')) :: (r.map fun (n, k) => if (k == NameKind.free && env.scope.kind == .function && env.kindOf n == some .cell) then (n, NameKind.cell) else (n, k))) = some k := h
    cases hx : x == n with
    | true =>
      by_cases hc : (k' == NameKind.free && env.scope.kind == .function && env.kindOf n == some .cell) = true
      · rw [if_pos hc] at h'
        simp only [List.lookup_cons, hx] at h' ⊢
        have hk : k' = NameKind.free := by
          simp only [Bool.and_eq_true] at hc
          simpa using hc.1.1
        cases h'
        exact .inr ⟨by rw [hk], rfl⟩
      · rw [if_neg hc] at h'
        simp only [List.lookup_cons, hx] at h' ⊢
        exact .inl h'
    | false =>
      by_cases hc : (k' == NameKind.free && env.scope.kind == .function && env.kindOf n == some .cell) = true
      · rw [if_pos hc] at h'
        simp only [List.lookup_cons, hx] at h' ⊢
        exact ih h'
      · rw [if_neg hc] at h'
        simp only [List.lookup_cons, hx] at h' ⊢
        exact ih h'

section
variable {X : Cx} {scope : Scope} {N' : List Str} {js : List (Option Nat)} {pins : List (Addr × Obj)} {σ : St} {H : Hp} {s : Shared} {fp : List Addr}

theorem CompOk.cellHas (c : CompOk X scope N' js) (ok : X.Ok) {y : Str × NameKind} (hy : y ∈ scope.names) (hk : y.2 = .free) : ∃ a, X.env.cells.lookup y.1 = some a := ok.has y.1 (.inl (c.free y hy hk))
theorem CompOk.clos (c : CompOk X scope N' js) (ok : X.Ok) : closureFor scope X.env = pure (closOf scope X.env) := clos_ok fun _ hy hk => c.cellHas ok hy hk

theorem comp_cxOk (c : CompOk X scope N' js) (I : Inv X pins σ H s) (hf : ∀ b ∈ fp, FpOk X pins H b) (hlt : ∀ b ∈ fp, b < s.heap.objs.size) : (compCx X scope N' s.heap.objs.size s H fp pins).Ok where
  mod := I.ok.mod
  kind := c.kind
  glob := I.ok.glob
  blt := I.ok.blt
  above := Nat.le_refl _
  inj := fun x y a h1 h2 => I.ok.inj x y a (clos_sub (scope := scope) h1) (clos_sub (scope := scope) h2)
  has := fun x h => by
    have key : scope.names.lookup x = some .free := by
      rcases h with h | h
      · rcases relabel_lookup (env := X.env) h with q | q
        · exact absurd rfl (c.nocell _ (lookup_mem q))
        · exact q.1
      · rcases relabel_lookup (env := X.env) h with q | q
        · exact q
        · exact q.1
    obtain ⟨a, ha⟩ := c.cellHas I.ok (lookup_mem key) rfl
    exact ⟨a, clos_eq key ha⟩
  cab := fun x a h _ => absurd h Bool.false_ne_true
  hd := I.ok.hd
  frames := I.ok.frames
  stk := .inl rfl
  exf := fun b hb => ⟨fun z => Nat.lt_irrefl _ (show b < b from (show b = s.heap.objs.size from z) ▸ hlt b hb), fun x a h => (hf b hb).2.2.2.2.1 x a (clos_sub (scope := scope) h)⟩
  bs := I.bs
  bsz := Nat.le_trans I.ok.bsz I.sz
  noex := fun b o e hb => by
    obtain ⟨_, _, _, f3, _, _⟩ := hf b hb
    rcases f3 with z | z
    · exact I.ok.noex b o e z
    · exact absurd (Nat.lt_of_lt_of_le (Heap.lt_size (I.ok.bs b o e).1) z) (Nat.lt_irrefl _)
  exfs := fun b hb z => by
    obtain ⟨_, f1, f2, _⟩ := hf b hb
    rcases List.mem_cons.mp (I.stkSub b z) with q | q
    · exact f1 q
    · exact f2 q
  funs := I.stack
  frf := I.stkFree

/-- the names at the block's entry -/
theorem comp_start (c : CompOk X scope N' js) (I : Inv X pins σ H s) (hf : ∀ b ∈ fp, FpOk X pins H b) (hlt : ∀ b ∈ fp, b < s.heap.objs.size) {h' : Heap} {tk : Nat} {m : Str → Option Value}
    (hn : h'.Ns s.heap.objs.size m) (hk : ∀ b o, s.heap.get? b = some o → h'.get? b = some o) :
    Inv (compCx X scope N' s.heap.objs.size s H fp pins) [] (compSt js σ) H { s with heap := h', toks := tk } where
  ok := comp_cxOk c I hf hlt
  os := rfl
  bare := I.bare
  base := Un.kept hk
  loc := by
    refine ⟨m, hn, fun i x v e1 e2 e3 => ?_⟩
    have e1' : N'[i]? = some x := e1
    unfold compSt at e2
    rw [List.getElem?_map] at e2
    cases ej : js[i]? with
    | none => rw [ej] at e2; simp at e2
    | some j =>
      rw [ej] at e2
      cases j with
      | none => simp at e2
      | some j =>
        simp only [Option.map_some, Option.some.injEq] at e2
        have hz : (x, some j) ∈ N'.zip js := by
          have : (N'.zip js)[i]? = some (x, some j) := by rw [List.getElem?_zip_eq_some]; exact ⟨e1', ej⟩
          exact List.mem_of_getElem? this
        have q := List.all_eq_true.mp c.jok _ hz
        simp only [Bool.and_eq_true, decide_eq_true_eq] at q
        obtain ⟨q1, q2⟩ := q
        cases es : σ[j]? with
        | none => rw [es] at e2; simp at e2
        | some y =>
          rw [es] at e2
          simp only at e2
          subst e2
          have hcell : X.env.scope.names.lookup x = some .cell := c.free _ (lookup_mem q2) rfl
          obtain ⟨m0, _, hl⟩ := I.loc
          obtain ⟨u, r, l⟩ := hl j x v q1 es (.inr (.inl hcell))
          refine ⟨u, r, ?_⟩
          rcases l with ⟨z, _⟩ | ⟨_, a, ha, ⟨o, ho, hd⟩⟩
          · have z' : X.env.scope.names.lookup x = some .local := z
            rw [hcell] at z'; cases z'
          · refine .inr ⟨?_, a, clos_eq q2 ha, ⟨o, hk _ _ ho, hd⟩⟩
            rcases e3 with e3 | e3 | e3
            · rcases relabel_lookup (env := X.env) e3 with z | z
              · rw [q2] at z; cases z
              · cases z.2
            · exact .inl e3
            · exact .inr e3
  cell := fun x a h => by
    obtain ⟨v, o, ho, hd⟩ := I.cell x a (clos_sub (scope := scope) h)
    exact ⟨v, o, hk _ _ ho, hd⟩
  free := I.hok.fresh (Nat.le_refl _)
  freeC := fun x a h => I.freeC x a (clos_sub (scope := scope) h)
  pin := fun p hp => by
    have hp' : p ∈ X.pn ++ pins := by simpa [compCx] using hp
    obtain ⟨e, n, ne, nf, d⟩ := I.pin p hp'
    refine ⟨hk _ _ e, n, fun z => ?_, fun z => ?_, d⟩
    · have z' : p.1 = s.heap.objs.size := z
      exact absurd (Heap.lt_size e) (by rw [z']; exact Nat.lt_irrefl _)
    · rcases List.mem_cons.mp (I.stkSub _ z) with q | q
      · exact ne q
      · exact nf q
  hok := I.hok.kept hk
  len := by
    unfold compSt
    rw [List.length_map, c.len]
    rfl
end
end L2

set_option Elab.async false
set_option linter.all false
set_option maxRecDepth 100000
namespace L2
open PySem PySem.Spec PyProof.Rows
/-- the turns of a block: W the word by the turn, a measure, the items so far -/
def CompW (J : It) (g : TG) (tf : TT) (te : TE) (p : Addr) (W : Nat → Nat → List V → St → Hp → Prop) (Fin : Hp → Prop) : Prop := ∀ i m ys σ H, W i m ys σ H → H p = some (.lst ys) ∧
  ((J.stop i H ∧ Fin H) ∨ (J.go i H ∧ ∀ x H1, J.yld i H x H1 → g x σ H1 fun σ2 H2 => tf σ2 H2 fun b H3 =>
    if b = true then te σ2 H3 fun y H4 => H4 p = some (.lst ys) ∧ ys.length < sizeLine ∧ ∃ m', m' < m ∧ W (i + 1) m' (ys ++ [y]) σ2 (upd H4 p (.lst (ys ++ [y])))
    else ∃ m', m' < m ∧ W (i + 1) m' ys σ2 H3))
section
variable {X : Cx} {scope : Scope} {N' : List Str} {js : List (Option Nat)} {pins : List (Addr × Obj)} {σ : St} {H : Hp} {s : Shared} {fp : List Addr}

theorem comp_run {elt tg iter : Expr} {ifs : List Expr} {pos : Pos} {J : It} {it : Addr} {tn : Nat → Heap → Prop} {g : TG} {tf : TT} {te : TE} {RR : Value → Addr → Result → Shared → Prop} {E : Value → Shared → Prop} {Fin : Addr → Hp → Prop}
    (c : CompOk X scope N' js) (hc : X.calm = true) (I : Inv X pins σ H s) (T : Turn X.prog X.w X.K tg J fp it tn) (st : tn 0 s.heap) (hf : ∀ b ∈ fp, FpOk X pins H b)
    (hg : ∀ C s H fp pins, PG (compCx X scope N' C s H fp pins) tg g) (ht : ∀ C s H fp pins, PF (compCx X scope N' C s H fp pins) ifs tf) (he : ∀ C s H fp pins, PE (compCx X scope N' C s H fp pins) elt te)
    (hw : ∀ p, H p = none → ∃ W : Nat → Nat → List V → St → Hp → Prop, (∃ m, W 0 m [] (compSt js σ) (upd H p (.lst []))) ∧ CompW J g tf te p W (Fin p))
    (hRR : ∀ (p C : Addr) (s' : Shared) (H' : Hp), Inv X pins σ H' s' → FpOk X pins H' C → (∃ m, s'.heap.Ns C m) → Fin p H' → RR (.ref p) C (.ok .next) s') :
    wpAny (model X.prog X.w) X.A (newList []) (fun acc s₃ => wpAny (model X.prog X.w) X.A (newFunctionEnv scope X.env.globals (closOf scope X.env) [] X.env.qual none .none (some X.env)) (fun cenv s₄ =>
      codeAny (model X.prog X.w) X.A (.compStart (.ListComp elt [⟨tg, iter, ifs, 0⟩] scope pos) 0 (.ref it) acc { cenv with scope := relabel scope X.env }) (RR acc cenv.locals) s₄) E s₃) E s := by
  refine wpAny_newObj_type (wpAny_newFunctionEnv c.nocell (by intro y hy; simp at hy) (fun h₁ hns₁ hsb₁ => ?_) c.kind)
  have hlt : ∀ b ∈ fp, b < s.heap.objs.size := fun b hb => by
    obtain ⟨o, e, _⟩ := T.obj _ _ st b hb
    exact Heap.lt_size e
  have I3 : Inv X pins σ (upd H s.heap.objs.size (.lst [])) { s with heap := s.heap.push { cls := .type "list", data := .seq ([] : List Value).toArray } } := I.lnew (its := []) (t' := s.toks) .nil (Nat.zero_le _)
  generalize hs3 : ({ s with heap := s.heap.push { cls := .type "list", data := .seq ([] : List Value).toArray } } : Shared) = s3 at I3
  have hh3 : s3.heap = s.heap.push { cls := .type "list", data := .seq ([] : List Value).toArray } := by rw [← hs3]
  have hlt3 : ∀ b ∈ fp, b < s3.heap.objs.size := fun b hb => by rw [hh3, Heap.size_push]; exact Nat.lt_succ_of_lt (hlt b hb)
  have hf3 : ∀ b ∈ fp, FpOk X pins (upd H s.heap.objs.size (.lst [])) b := fun b hb => by
    obtain ⟨f0, f1⟩ := hf b hb
    exact ⟨by rw [upd_ne (Nat.ne_of_lt (hlt b hb))]; exact f0, f1⟩
  have hC : (s.heap.push { cls := .type "list", dict := none, data := .seq ([] : List Value).toArray }).objs.size = s3.heap.objs.size := by rw [hh3]
  replace hns₁ : h₁.Ns s3.heap.objs.size (fun x => List.lookup x ([] : List (Str × Value)).reverse) := by rw [← hC]; exact hns₁
  replace hsb₁ : Heap.SameBut s3.heap.objs.size (s3.heap.push { cls := .type (if (some X.env).isSome then "dict" else "frame"), data := .dict #[] }) h₁ := by rw [hh3]; exact hsb₁
  have hk : ∀ b o, s3.heap.get? b = some o → h₁.get? b = some o := fun b o e => by
    exact hsb₁.extBut b o (Nat.ne_of_lt (Heap.lt_size e)) (Heap.get?_push_of_some _ e)
  have IB := comp_start (tk := s3.toks + ([] : List (Str × Value)).length) c I3 hf3 hlt3 hns₁ hk
  have okB := IB.ok
  generalize hX' : compCx X scope N' s3.heap.objs.size s3 (upd H s.heap.objs.size (.lst [])) fp pins = X' at IB okB
  have gX : PG X' tg g := by rw [← hX']; exact hg _ _ _ _ _
  have tX : PF X' ifs tf := by rw [← hX']; exact ht _ _ _ _ _
  have eX : PE X' elt te := by rw [← hX']; exact he _ _ _ _ _
  have hP : X'.prog = X.prog := by rw [← hX']; rfl
  have hW : X'.w = X.w := by rw [← hX']; rfl
  have hKK : X'.K = X.K := by rw [← hX']; rfl
  have hA : X'.A = X.A := by rw [← hX']; rfl
  have hcm : X'.calm = true := by rw [← hX']; exact hc
  have hE : X'.env = compEnvC scope (closOf scope X.env) s3.heap.objs.size X.env := by rw [← hX']; rfl
  have hXe : X'.xe = fun _ _ => False := by rw [← hX']; rfl
  have stat : ∀ {H' : Hp}, (∀ b ∈ fp, H' b = none) → ∀ b ∈ fp, FpOk X' [] H' b := fun {H'} hn b hb => by
    obtain ⟨f0, f1, f2, f3, f4, f5⟩ := hf3 b hb
    refine ⟨hn b hb, ?_, ?_, .inl ?_, ?_, ?_⟩
    · rw [← hX']; exact Nat.ne_of_lt (hlt3 b hb)
    · intro z
      exact okB.exfs b (by rw [← hX']; exact hb) z
    · rw [← hX']; exact hb
    · intro x a h
      exact (okB.exf b (by rw [← hX']; exact hb)).2 x a h
    · intro q hq
      refine f5 q ?_
      rw [← hX'] at hq
      simpa [compCx] using hq
  have fin : ∀ {σ' : St} {H' : Hp} {s' : Shared}, Inv X' [] σ' H' s' → Fin s.heap.objs.size H' → RR (.ref s.heap.objs.size) s3.heap.objs.size (.ok .next) s' := fun {σ' H' s'} I' q => by
    have IX : Inv X pins σ H' s' := by
      refine I3.call' (ch := fp) (H' := H') ?_ ?_ ?_ I'.bare ?_
      · have := I'.os
        rw [← hX'] at this
        exact this
      · have := I'.base
        rw [← hX'] at this
        exact this
      · have := I'.hok
        rw [← hX'] at this
        exact this
      · intro b hb
        obtain ⟨f0, f1, f2, f3, f4, f5⟩ := hf3 b hb
        exact ⟨f3, f1, f4, f5⟩
    have fr : H' s3.heap.objs.size = none := by
      have := I'.free
      rw [hE] at this
      exact this
    refine hRR _ _ _ H' IX (I3.fpOk (Nat.le_refl _) fr) ?_ q
    obtain ⟨m, hm, _⟩ := I'.loc
    rw [hE] at hm
    exact ⟨m, hm⟩
  obtain ⟨W, ⟨m0, w0⟩, turn⟩ := hw s.heap.objs.size (I.hok.fresh (Nat.le_refl _))
  have st1 : tn 0 h₁ := T.keep _ _ _ st fun b hb o e => hk b o (by rw [hh3]; exact Heap.get?_push_of_some _ e)
  have loop : ∀ s4 : Shared, s4 = { s3 with heap := h₁, toks := s3.toks + ([] : List (Str × Value)).length } →
      codeAny (model X.prog X.w) X.A (.compLoop (.ListComp elt [⟨tg, iter, ifs, 0⟩] scope pos) 0 (.ref it) (.ref s.heap.objs.size) X'.env) (RR (.ref s.heap.objs.size) s3.heap.objs.size) s4 := by
    rintro s4 rfl
    refine compLoop_any (fun n s' => ∃ i ys σ' H', Inv X' [] σ' H' s' ∧ tn i s'.heap ∧ (∀ b ∈ fp, H' b = none) ∧ W i n ys σ' H') ?_ m0 ⟨0, [], _, _, IB, st1, fun b hb => (hf3 b hb).1, w0⟩
    rintro n s5 ⟨i, ys, σ5, H5, I5, st5, fr5, w5⟩
    obtain ⟨hacc, h⟩ := turn i n ys σ5 H5 w5
    rcases h with ⟨stop, qn⟩ | ⟨go, step⟩
    · have td := T.done X' hP hW hKK hcm i [] s5 σ5 H5 (fun _ _ => False) I5 (stat fr5) st5 stop
      rw [hA] at td
      refine thn td fun r s6 ⟨hr, I6⟩ => ?_
      subst hr
      exact fin I6 qn
    · have td := T.item X' hP hW hKK hcm i [] s5 σ5 H5 (fun _ _ => False) I5 (stat fr5) st5 go
      rw [hA] at td
      refine thn td fun r s6 ⟨u, hr, h6⟩ => ?_
      subst hr
      refine thn h6 fun _ s7 ⟨x, H7, I7, r7, y7, st7, fr7⟩ => ?_
      have I7' := I7.pinned (stat fr7) (T.obj _ _ st7)
      have g7 := gX _ s7 σ5 H7 x u _ I7' r7 (step x H7 y7)
      have t7 := tX
      have e7 := eX
      unfold PF at t7
      unfold PE at e7
      rw [hXe, hP, hW, hA] at g7 t7 e7
      refine thn g7 fun _ s8 ⟨σ8, H8, I8, q8⟩ => ?_
      refine thn (t7 _ s8 σ8 H8 _ I8 q8) fun b s9 ⟨H9, I9, q9⟩ => ?_
      have back : ∀ {σ' : St} {H' : Hp} {s' : Shared} {ys' : List V}, Inv X' ([] ++ pinsAt fp s7.heap) σ' H' s' → (∃ m', m' < n ∧ W (i + 1) m' ys' σ' H') → ∃ m, m < n ∧ ∃ i ys σ' H', Inv X' [] σ' H' s' ∧ tn i s'.heap ∧ (∀ b ∈ fp, H' b = none) ∧ W i m ys σ' H' := fun {σ' H' s' ys'} I' ⟨m', hm, w'⟩ => by
        refine ⟨m', hm, i + 1, ys', σ', H', I'.unpinned, T.keep _ _ _ st7 fun b hb o e => (I'.pin (b, o) (List.mem_append_right _ (List.mem_append_right _ (mem_pinsAt hb e)))).1, fun b hb => ?_, w'⟩
        obtain ⟨o, e, d⟩ := T.obj _ _ st7 b hb
        exact (I'.pin (b, o) (List.mem_append_right _ (List.mem_append_right _ (mem_pinsAt hb e)))).2.1
      cases b with
      | false =>
        rw [if_neg Bool.false_ne_true] at q9
        rw [if_neg Bool.false_ne_true]
        exact back I9 q9
      | true =>
        rw [if_pos rfl] at q9
        rw [if_pos rfl]
        refine thn (e7 _ s9 σ8 H9 _ I9 q9) fun v s10 ⟨y, H10, I10, r10, a10, z10, q10⟩ => ?_
        have m10 := mt_append (X := X') (([] : List (Addr × Obj)) ++ pinsAt fp s7.heap) s10 σ8 H10 (.ref s.heap.objs.size) [y] (.ref s.heap.objs.size) [v] (fun _ H' => H' = upd H10 s.heap.objs.size (.lst (ys ++ [y]))) I10 rfl (.cons r10 .nil) ⟨_, ys, y, rfl, rfl, a10, z10, rfl⟩
        rw [hXe, hP, hW, hA] at m10
        refine thn m10 fun _ s11 ⟨_, H11, I11, _, e11⟩ => ?_
        subst e11
        exact back I11 q10
  show codeAny _ _ (.compStart _ 0 (.ref it) _ (compEnvC scope (closOf scope X.env) s3.heap.objs.size X.env)) (RR (.ref s.heap.objs.size) s3.heap.objs.size) _
  rw [← hE]
  exact codeAny_compStart_list (loop _ rfl) (T.self X.A 0 _ _ _ st1 (loop _ rfl))

def tComp (js : List (Option Nat)) (wi : TI) (g : TG) (tf : TT) (te : TE) : TE := fun σ H Q => wi σ H fun J H1 => ∀ p, H1 p = none →
  ∃ W : Nat → Nat → List V → St → Hp → Prop, (∃ m, W 0 m [] (compSt js σ) (upd H1 p (.lst []))) ∧ CompW J g tf te p W (fun H' => Q (.ref p) H')
/-- a list comprehension as a value -/
theorem pe_comp {elt tg iter : Expr} {ifs : List Expr} {pos : Pos} {wi : TI} {g : TG} {tf : TT} {te : TE} (c : CompOk X scope N' js) (hc : X.calm = true) (hi : PI X tg iter wi)
    (hg : ∀ C s H fp pins, PG (compCx X scope N' C s H fp pins) tg g) (ht : ∀ C s H fp pins, PF (compCx X scope N' C s H fp pins) ifs tf) (he : ∀ C s H fp pins, PE (compCx X scope N' C s H fp pins) elt te)
    (hs : ∀ x, foldedSetIterable iter X.env x = pure x := by intro _; rfl) : PE X (.ListComp elt [⟨tg, iter, ifs, 0⟩] scope pos) (tComp js wi g tf te) := by
  intro pins s σ H Q I h
  rw [eval_ListComp]
  refine wpAny_comprehension_free (use := none) rfl hs (c.clos I.ok) c.kind c.loc (thn (hi pins s σ H _ I h) fun v s1 h1 => thn h1 fun itv s2 h2 => ?_)
  obtain ⟨it, fp, tn, J, H2, e, I2, T, st2, f2, hw⟩ := h2
  subst e
  refine comp_run (RR := fun acc C => compPost (model X.prog X.w) X.A X.xe none (EP X pins σ Q) acc C) (Fin := fun p H' => Q (.ref p) H') c hc I2 T st2 f2 hg ht he hw ?_
  intro p C s' H' I' fC ⟨m, hm⟩ q
  refine ⟨m, hm, fun h' hs' => ?_⟩
  obtain ⟨f0, f1, f2, f3, f4, f5⟩ := fC
  exact ⟨.ref p, H', I'.turned (t' := s'.toks) (fun b o hb e => hs'.extBut b o hb e) f0 f1 f3 f4 f5, rfl, q⟩
/-- name = a list comprehension (the name a plain local one, on the same row) -/
theorem ps_comp {i : Nat} {y : Str} {elt tg iter : Expr} {ifs : List Expr} {py pos spos : Pos} {wi : TI} {g : TG} {tf : TT} {te : TE} (hN : X.N.Nodup) (hy : X.N[i]? = some y) (hl : X.env.scope.names.lookup y = some .local)
    (hsw : swapsWith (.ListComp elt [⟨tg, iter, ifs, 0⟩] scope pos) (some (.Name y py)) spos.line X.env = pure true)
    (c : CompOk X scope N' js) (hc : X.calm = true) (hi : PI X tg iter wi)
    (hg : ∀ C s H fp pins, PG (compCx X scope N' C s H fp pins) tg g) (ht : ∀ C s H fp pins, PF (compCx X scope N' C s H fp pins) ifs tf) (he : ∀ C s H fp pins, PE (compCx X scope N' C s H fp pins) elt te)
    (hs : ∀ x, foldedSetIterable iter X.env x = pure x := by intro _; rfl) : PS X (.Assign [.Name y py] (.ListComp elt [⟨tg, iter, ifs, 0⟩] scope pos) spos) (tAsg (tComp js wi g tf te) (gName i)) := by
  intro pins s σ H D I h
  rw [exec_Assign_Name_used _ _ _ _ hsw]
  refine wpAny_bind (wpAny_standAt (wpAny_bind ?_))
  show wpAny _ X.A (do let _ ← comprehension (.ListComp elt [⟨tg, iter, ifs, 0⟩] scope pos) scope X.env _ (newList []) false (eval iter X.env) (some (assign (.Name y py) X.env))) _ _ s
  refine wpAny_bind (thn (wpAny_comprehension_free (use := some (assign (.Name y py) X.env)) (Q := fun _ s' => SP X pins D .next s') rfl hs (c.clos I.ok) c.kind c.loc
    (thn (hi pins s σ H _ I h) fun v s1 h1 => thn h1 fun itv s2 h2 => ?_)) fun _ s' hq => wpAny_pure (wpAny_pure hq))
  obtain ⟨it, fp, tn, J, H2, e, I2, T, st2, f2, hw⟩ := h2
  subst e
  refine comp_run (RR := fun acc C => compPost (model X.prog X.w) X.A X.xe (some (assign (.Name y py) X.env)) (fun _ s' => SP X pins D .next s') acc C) (Fin := fun p H' => D.nx (σ.set i (some (.ref p))) H') c hc I2 T st2 f2 hg ht he hw ?_
  intro p C s' H' I' fC ⟨m, hm⟩ q
  show wpAny _ X.A (assign (.Name y py) X.env (.ref p)) _ _ s'
  refine wpAny_assign_Name (store_ok2 I' hN hy (.inl hl) (v := .ref p) rfl (fun s'' I'' ⟨a, sb, ha⟩ => ?_) (.inr hl))
  obtain ⟨f0, f1, f2, f3, f4, f5⟩ := fC
  have neC : C ≠ a := by
    rcases ha with z | z
    · rw [z]; exact f1
    · exact fun q => f4 _ _ z q.symm
  refine ⟨m, hm.sameBut sb neC, fun h' hs' => ?_⟩
  exact ⟨_, H', I''.turned (t' := s''.toks) (fun b o hb e => hs'.extBut b o hb e) f0 f1 f3 f4 f5, q⟩
end
end L2

set_option Elab.async false
set_option linter.all false
set_option maxRecDepth 100000
namespace L2
open PySem PySem.Spec PyProof.Rows
section
variable {X : Cx} {pins : List (Addr × Obj)} {σ : St} {H : Hp} {s : Shared} {h' : Heap}
/-- some untracked records have turned, and a new object is laid -/
theorem Inv.turnedLaid {ch : List Addr} {a : Addr} {o : HO} {t' : Nat} (I : Inv X pins σ H s) (hch : ∀ b ∈ ch, FpOk X pins H b) (k : ∀ b u, b ∉ ch → s.heap.get? b = some u → h'.get? b = some u) (hp : s.heap.objs.size ≤ a)
    (new : ObjOk X.prog X.w (upd H a o) h' a o) : Inv X pins σ (upd H a o) { s with heap := h', toks := t' } := by
  have hn := I.hok.fresh hp
  have nt : ∀ b u, H b = some u → b ∉ ch := fun b u e z => by rw [(hch b z).1] at e; cases e
  refine I.step (g' := s.gens) (d' := s.drawn) (ch := ch) (fun b hb => ?_) (fun b u _ _ hc e _ => k b u hc e) (fun b u _ _ hc e _ => ⟨u.slots, k b u hc e⟩)
    (fun b u _ e n => by rw [upd_ne (Nat.ne_of_lt (Nat.lt_of_lt_of_le (Heap.lt_size e) hp))]; exact n) (fun b u hc e => ⟨u, k b u hc e⟩)
    (fun b xs q => by rw [upd_ne (ne_of_none q hn)]; exact q) (fun b u xs q => by rw [upd_ne (ne_of_none q hn)]; exact q) (fun b ps q => ⟨#[], by rw [upd_ne (ne_of_none q hn), q]; simp⟩) (fun m hm => ?_) (fun b u e => ?_) I.bare
  · obtain ⟨_, f1, _, f3, f4, f5⟩ := hch b hb
    exact ⟨f3, f1, f4, f5⟩
  · obtain ⟨ob, es, ep, ho, r⟩ := hm
    exact ⟨ob, es, ep, k _ ob (fun z => (hch _ z).2.1 rfl) ho, r⟩
  · by_cases hb : b = a
    · subst hb; rw [upd_same] at e; cases e; exact new
    · rw [upd_ne hb] at e
      refine (I.hok b u e).stay (fun c v hc q => k c v ?_ q) (fun c q => by rw [upd_ne (ne_of_none q hn)]; exact q) fun c xs q => by rw [upd_ne (ne_of_none q hn)]; exact q
      rcases hc with z | z
      · rw [z]; exact nt b u e
      · exact nt c _ z
end

/-- a list from behind -/
def Itv (K : PySem.W.Frag) (a : Addr) (xs : List V) : It :=
  ⟨fun i H => i < xs.length ∧ SqL K H a xs, fun i H x H' => H' = H ∧ xs[xs.length - 1 - i]? = some x, fun i H => i = xs.length⟩

/-- the signs of a text -/
def Its (z : Str) : It := ⟨fun i _ => i < z.cps.size, fun i H x H' => H' = H ∧ ∃ c, z.cps[i]? = some c ∧ x = .str ⟨#[c]⟩, fun i _ => i = z.cps.size⟩

/-- the pairs of a place and an item; J the items -/
def Ite (K : PySem.W.Frag) (a : Addr) : It :=
  ⟨fun i H => ∃ xs x, SqL K H a xs ∧ xs[i]? = some x, fun i H v H' => ∃ p x, v = .ref p ∧ H p = none ∧ H' = upd H p (.tup [.int i, x]) ∧ ∀ xs, SqL K H a xs → xs[i]? = some x, fun i H => ∃ xs, SqL K H a xs ∧ xs.length ≤ i⟩
theorem turn_enum {P : Program} {w : World} {K : PySem.W.Frag} {els : List Expr} {k : Nat} {tp : Pos} (a e it : Addr) (hne : e ≠ it) : Turn P w K (.Tuple els k tp) (Ite K a) [e, it] e (fun i h => (∃ old, IsEnum h e it (i : Int) old) ∧ h.IsListIter it a i) where
  mem := by simp
  obj := fun i h st b hb => by
    obtain ⟨⟨old, he⟩, ⟨o, e1, c, d⟩⟩ := st
    rcases List.mem_cons.mp hb with z | z
    · subst z
      exact ⟨_, he, fun v z => by
        have z' : Data.fields _ = Data.cell v := z
        cases z'⟩
    · have z' : b = it := by simpa using z
      subst z'
      exact ⟨o, e1, fun v z => by rw [d] at z; cases z⟩
  keep := fun i h h' st k => by
    obtain ⟨⟨old, he⟩, st⟩ := st
    exact ⟨⟨old, k e (by simp) _ he⟩, st.at fun o q => k it (by simp) o q⟩
  item := by
    intro X hP hw hK hc i pins s σ H E I hf st hg
    subst hP hw hK
    obtain ⟨⟨old, he⟩, st⟩ := st
    obtain ⟨xs, x, hq, hx⟩ := hg
    obtain ⟨its, rv, p, hz⟩ := I.list hq
    obtain ⟨u, hu, ru⟩ := rv.get hx
    refine wpAny_pyNext_enum_item he st p.isList (x := u) (by simpa using hu) hne fun h' he' st' ht' hz' hk' => ?_
    have hfr : H s.heap.objs.size = none := I.hok.fresh (Nat.le_refl _)
    have hel := Heap.lt_size he
    refine ⟨_, rfl, wpAny_letOwnedTupleGo_enum he' fun h'' he'' hs'' => ?_⟩
    have ht'' : h''.get? s.heap.objs.size = some { cls := .type "tuple", data := .seq #[.int i s.toks, u] } := (hs''.2 _ (Nat.ne_of_gt hel)).trans ht'
    have I1 : Inv X pins σ (upd H s.heap.objs.size (.tup [.int i, x])) { s with heap := h'', toks := s.toks + 1 } := by
      refine I.turnedLaid (ch := [e, it]) hf (fun b o hb q => (hs''.2 b fun z => hb (by simp [z])).trans (hk' b o (fun z => hb (by simp [z])) (fun z => hb (by simp [z])) q)) (Nat.le_refl _) ?_
      exact ⟨by show 2 ≤ sizeLine; decide, [.int i s.toks, u], .cons ⟨_, rfl⟩ (.cons ru .nil), ⟨_, ht'', rfl, _, rfl⟩⟩
    refine ⟨.ref s.heap.objs.size, _, I1, rfl, ⟨_, x, rfl, hfr, rfl, fun ys hy => by rw [I.list_inj hy hq]; exact hx⟩, ⟨⟨u, by simpa using he''⟩, ?_⟩, fun b hb => ?_⟩
    · exact st'.at fun o q => (hs''.2 it (Ne.symm hne)).trans q
    · have hb' : b < s.heap.objs.size := by
        rcases List.mem_cons.mp hb with z | z
        · rw [z]; exact hel
        · have z' : b = it := by simpa using z
          obtain ⟨o, q, _⟩ := st
          rw [z']; exact Heap.lt_size q
      rw [upd_ne (Nat.ne_of_lt hb')]
      exact (hf b hb).1
  done := by
    intro X hP hw hK hc i pins s σ H E I hf st hg
    subst hP hw hK
    obtain ⟨⟨old, he⟩, st⟩ := st
    obtain ⟨xs, hq, hx⟩ := hg
    obtain ⟨its, rv, p, hz⟩ := I.list hq
    obtain ⟨f0, f1, f2, f3, f4, f5⟩ := hf it (by simp)
    have hl := rv.length
    exact wpAny_pyNext_enum_end (I.ok.hd hc) he st p.isList (by simp; omega) fun h' eb => ⟨rfl, I.turned (t' := s.toks) (fun b o hb e => eb b o hb e) f0 f1 f3 f4 f5⟩
  self := fun _ _ _ _ _ st h => by
    obtain ⟨⟨old, he⟩, _⟩ := st
    exact wpAny_pyIter_enum he h

/-- the pairs of a place and a sign -/
def Ites (z : Str) : It := ⟨fun i _ => i < z.cps.size, fun i H v H' => ∃ p c, v = .ref p ∧ H p = none ∧ H' = upd H p (.tup [.int i, .str ⟨#[c]⟩]) ∧ z.cps[i]? = some c, fun i _ => i = z.cps.size⟩

section
variable {X : Cx} {tg : Expr}
def iStr (tl : TE) : TI := fun σ H R => tl σ H fun x H1 => ∃ z, x = .str z ∧ R (Its z) H1
def iRev (K : PySem.W.Frag) (ta : TA) : TI := fun σ H R => ta σ H fun vs H1 => ∃ a xs, vs = [.ref a] ∧ SqL K H1 a xs ∧ R (Itv K a xs) H1
def iEnum (K : PySem.W.Frag) (ta : TA) : TI := fun σ H R => ta σ H fun vs H1 => ∃ a, vs = [.ref a] ∧ (∃ xs, SqL K H1 a xs) ∧ R (Ite K a) H1
theorem pi_enum {els : List Expr} {k : Nat} {tp : Pos} {a : Expr} {ta : TA} {p pos : Pos} (hg : Gl X "enumerate") (hm : X.mg "enumerate" = none) (ha : PA X [a] ta) (hs : starEach [a] X.env = [(false, eval a X.env)] := by rfl) : PI X (.Tuple els k tp) (.Call (.Name "enumerate" p) [a] [] pos) (iEnum X.K ta) := by
  intro pins s σ H R I h
  refine Call_ (ld_blt I hg hm boot_enumerate (PyProof.Rows.callWith_type1 (thn (ha pos pins s σ H _ I h) fun us s1 ⟨vs, H1, I1, r1, q1⟩ => ?_) hs rfl))
  obtain ⟨a, e, ⟨xs, hq⟩, q⟩ := q1
  subst e
  cases r1 with
  | cons r rr =>
    cases rr
    obtain rfl : _ = Value.ref a := r
    obtain ⟨its, rv, pl, hz⟩ := I1.list hq
    refine call_enumerate_list pl.isList fun h' he hi hsz hk => wpAny_pyIter_enum he ?_
    refine ⟨s1.heap.objs.size + 1, [s1.heap.objs.size + 1, s1.heap.objs.size], _, _, H1, rfl, I1.kept (t' := s1.toks) hk, turn_enum a _ s1.heap.objs.size (Nat.succ_ne_self _), ⟨⟨_, he⟩, hi⟩, fun b hb => ?_, q⟩
    rcases List.mem_cons.mp hb with z | z
    · subst z
      exact I1.fpOk (Nat.le_succ _) (I1.hok.fresh (Nat.le_succ _))
    · have e : b = s1.heap.objs.size := by simpa using z
      subst e
      exact I1.fpOk (Nat.le_refl _) (I1.hok.fresh (Nat.le_refl _))
def iEnumS (ta : TA) : TI := fun σ H R => ta σ H fun vs H1 => ∃ z, vs = [.str z] ∧ R (Ites z) H1
end
end L2

set_option Elab.async false
set_option linter.all false
set_option maxRecDepth 100000
namespace L2
open PySem PySem.Spec PyProof.Rows

/-! ## == of lists and tuples, their items ints, bools, texts, None, or such lists and tuples -/
inductive EqD (K : PySem.W.Frag) (H : Hp) : Nat → V → V → Bool → Prop where
  | flat {n : Nat} {x y : V} (fx : flatV x = true) (fy : flatV y = true) : EqD K H n x y (eqV x y)
  | same {n : Nat} {a : Addr} : EqD K H n (.ref a) (.ref a) true
  | lists {n : Nat} {a b : Addr} {xs ys : List V} {e : Nat → Bool} (ha : SqL K H a xs) (hb : SqL K H b ys) (hl : xs.length = ys.length) (he : ∀ j x y, xs[j]? = some x → ys[j]? = some y → EqD K H n x y (e j)) (ne : a ≠ b) :
      EqD K H (n + 1) (.ref a) (.ref b) ((List.range xs.length).all e)
  | longer {n : Nat} {a b : Addr} {xs ys : List V} (ha : SqL K H a xs) (hb : SqL K H b ys) (hl : xs.length ≠ ys.length) (ne : a ≠ b) : EqD K H (n + 1) (.ref a) (.ref b) false
  | tups {n : Nat} {a b : Addr} {xs ys : List V} {e : Nat → Bool} (ha : SqT K H a xs) (hb : SqT K H b ys) (he : ∀ j x y, xs[j]? = some x → ys[j]? = some y → EqD K H n x y (e j)) (ne : a ≠ b) :
      EqD K H (n + 1) (.ref a) (.ref b) ((List.range (min xs.length ys.length)).all e && xs.length == ys.length)
section
variable {X : Cx} {pins : List (Addr × Obj)} {σ : St} {H : Hp} {s : Shared}
theorem vals_at {xs : List V} {its : List Value} (r : Vals xs its) {j : Nat} (h : j < its.toArray.size) : ∃ x, xs[j]? = some x ∧ RelV x its.toArray[j] := by
  have h1 : j < its.length := by simpa using h
  have hl := r.length
  have e : xs[j]? = some (xs[j]'(by omega)) := List.getElem?_eq_getElem (by omega)
  obtain ⟨u, hu, ru⟩ := r.get e
  refine ⟨_, e, ?_⟩
  have : its[j]? = some its[j] := List.getElem?_eq_getElem h1
  rw [this] at hu
  cases hu
  simpa using ru
theorem EqD.at {K : PySem.W.Frag} {n : Nat} {x y : V} {b : Bool} (h : EqD K H n x y b) : ∀ {A : Around} {u v : Value}, X.K = K → Inv X pins σ H s → A.units + n < cLine → RelV x u → RelV y v → SeqAt.EqAt A s u v b := by
  induction h with
  | flat fx fy => intro A u v hK I hu rx ry; exact eqAt_V rx ry fx fy
  | @same n a =>
    intro A u v hK I hu rx ry
    cases rx; cases ry
    exact SeqAt.EqAt.same _
  | @lists n a b xs ys e ha hb hl he ne ih =>
    intro A u v hK I hu rx ry
    subst hK
    cases rx; cases ry
    obtain ⟨its, r, pl, hz⟩ := I.list ha
    obtain ⟨its2, r2, pl2, hz2⟩ := I.list hb
    have l1 := r.length
    have l2 := r2.length
    have q := SeqAt.RcAt.lists (A := A) (s := s) (e := e) pl.isList pl2.isList (by simp; omega) (by omega) (fun j h1 h2 => by
      obtain ⟨x, ex, rx⟩ := vals_at r h1
      obtain ⟨y, ey, ry⟩ := vals_at r2 h2
      exact ih j x y ex ey rfl I (by show A.units + 1 + n < cLine; omega) rx ry)
    rw [show its.toArray.size = xs.length by simp; omega] at q
    exact SeqAt.EqAt.of_refs ne q
  | @longer n a b xs ys ha hb hl ne =>
    intro A u v hK I hu rx ry
    subst hK
    cases rx; cases ry
    obtain ⟨its, r, pl, hz⟩ := I.list ha
    obtain ⟨its2, r2, pl2, hz2⟩ := I.list hb
    have l1 := r.length
    have l2 := r2.length
    exact SeqAt.EqAt.of_refs ne (SeqAt.RcAt.lists_lengths pl.isList pl2.isList (by simp; omega) (by omega))
  | @tups n a b xs ys e ha hb he ne ih =>
    intro A u v hK I hu rx ry
    subst hK
    cases rx; cases ry
    obtain ⟨its, r, pl, hz⟩ := I.tuple ha
    obtain ⟨its2, r2, pl2, hz2⟩ := I.tuple hb
    have l1 := r.length
    have l2 := r2.length
    have q := SeqAt.RcAt.tuples (A := A) (s := s) (e := e) (show s.heap.IsTuple a its.toArray from pl) (show s.heap.IsTuple b its2.toArray from pl2) (by omega) (fun j h1 h2 => by
      obtain ⟨x, ex, rx⟩ := vals_at r h1
      obtain ⟨y, ey, ry⟩ := vals_at r2 h2
      exact ih j x y ex ey rfl I (by show A.units + 1 + n < cLine; omega) rx ry)
    rw [show its.toArray.size = xs.length by simp; omega, show its2.toArray.size = ys.length by simp; omega] at q
    exact SeqAt.EqAt.of_refs ne q

/-- two lists, or two tuples, compared at the top -/
inductive EqT (K : PySem.W.Frag) (H : Hp) (n : Nat) : V → V → Bool → Prop where
  | lists {a b : Addr} {xs ys : List V} {e : Nat → Bool} (ha : SqL K H a xs) (hb : SqL K H b ys) (hl : xs.length = ys.length) (he : ∀ j x y, xs[j]? = some x → ys[j]? = some y → EqD K H n x y (e j)) :
      EqT K H n (.ref a) (.ref b) ((List.range xs.length).all e)
  | longer {a b : Addr} {xs ys : List V} (ha : SqL K H a xs) (hb : SqL K H b ys) (hl : xs.length ≠ ys.length) : EqT K H n (.ref a) (.ref b) false
  | tups {a b : Addr} {xs ys : List V} {e : Nat → Bool} (ha : SqT K H a xs) (hb : SqT K H b ys) (he : ∀ j x y, xs[j]? = some x → ys[j]? = some y → EqD K H n x y (e j)) :
      EqT K H n (.ref a) (.ref b) ((List.range (min xs.length ys.length)).all e && xs.length == ys.length)
def rEqT (K : PySem.W.Frag) (neg : Bool) : R2 := fun x y H Q => ∃ b, EqT K H 8 x y b ∧ Q (.bl (if neg then !b else b)) H
theorem op_eqT (hu : X.A.units + 64 < cLine) : OpR X (compareOp .Eq) (rEqT X.K false) := by
  intro pins s σ H x y v u Q I rx ry h
  obtain ⟨b, h, q⟩ := h
  have q' : Q (.bl b) H := q
  cases h with
  | @lists a b xs ys e ha hb hl he =>
    cases rx; cases ry
    obtain ⟨its, r, pl, hz⟩ := I.list ha
    obtain ⟨its2, r2, pl2, hz2⟩ := I.list hb
    have l1 := r.length
    have l2 := r2.length
    refine SeqAt.eq_listAt (e := e) pl.isList pl2.isList (by simp; omega) (by omega) (fun j h1 h2 => ?_) ?_
    · obtain ⟨x, ex, rx⟩ := vals_at r h1
      obtain ⟨y, ey, ry⟩ := vals_at r2 h2
      exact (he j x y ex ey).at rfl I (by show X.A.units + 1 + 8 < cLine; omega) rx ry
    · rw [show its.toArray.size = xs.length by simp; omega]
      exact ⟨.bl _, H, I, rfl, q'⟩
  | @longer a b xs ys ha hb hl =>
    cases rx; cases ry
    obtain ⟨its, r, pl, hz⟩ := I.list ha
    obtain ⟨its2, r2, pl2, hz2⟩ := I.list hb
    have l1 := r.length
    have l2 := r2.length
    exact SeqAt.eq_list_lengthsAt pl.isList pl2.isList (by simp; omega) (by omega) ⟨.bl _, H, I, rfl, q'⟩
  | @tups a b xs ys e ha hb he =>
    cases rx; cases ry
    obtain ⟨its, r, pl, hz⟩ := I.tuple ha
    obtain ⟨its2, r2, pl2, hz2⟩ := I.tuple hb
    have l1 := r.length
    have l2 := r2.length
    refine SeqAt.eq_tupleAt (e := e) (show s.heap.IsTuple a its.toArray from pl) (show s.heap.IsTuple b its2.toArray from pl2) (by omega) (fun j h1 h2 => ?_) ?_
    · obtain ⟨x, ex, rx⟩ := vals_at r h1
      obtain ⟨y, ey, ry⟩ := vals_at r2 h2
      exact (he j x y ex ey).at rfl I (by show X.A.units + 1 + 8 < cLine; omega) rx ry
    · rw [show its.toArray.size = xs.length by simp; omega, show its2.toArray.size = ys.length by simp; omega]
      exact ⟨.bl _, H, I, rfl, q'⟩
theorem op_neT (hu : X.A.units + 64 < cLine) : OpR X (compareOp .NotEq) (rEqT X.K true) := by
  intro pins s σ H x y v u Q I rx ry h
  obtain ⟨b, h, q⟩ := h
  have q' : Q (.bl (!b)) H := q
  cases h with
  | @lists a b xs ys e ha hb hl he =>
    cases rx; cases ry
    obtain ⟨its, r, pl, hz⟩ := I.list ha
    obtain ⟨its2, r2, pl2, hz2⟩ := I.list hb
    have l1 := r.length
    have l2 := r2.length
    refine SeqAt.RcNeAt.lists (e := e) pl.isList pl2.isList (by simp; omega) (by omega) (fun j h1 h2 => ?_) _ _ _ _ ?_
    · obtain ⟨x, ex, rx⟩ := vals_at r h1
      obtain ⟨y, ey, ry⟩ := vals_at r2 h2
      exact (he j x y ex ey).at rfl I (by show X.A.units + 1 + 8 < cLine; omega) rx ry
    · rw [show its.toArray.size = xs.length by simp; omega]
      exact ⟨.bl _, H, I, rfl, q'⟩
  | @longer a b xs ys ha hb hl =>
    cases rx; cases ry
    obtain ⟨its, r, pl, hz⟩ := I.list ha
    obtain ⟨its2, r2, pl2, hz2⟩ := I.list hb
    have l1 := r.length
    have l2 := r2.length
    exact SeqAt.RcNeAt.lists_lengths pl.isList pl2.isList (by simp; omega) (by omega) _ _ _ _ ⟨.bl _, H, I, rfl, q'⟩
  | @tups a b xs ys e ha hb he =>
    cases rx; cases ry
    obtain ⟨its, r, pl, hz⟩ := I.tuple ha
    obtain ⟨its2, r2, pl2, hz2⟩ := I.tuple hb
    have l1 := r.length
    have l2 := r2.length
    refine SeqAt.RcNeAt.tuples (e := e) (show s.heap.IsTuple a its.toArray from pl) (show s.heap.IsTuple b its2.toArray from pl2) (by omega) (fun j h1 h2 => ?_) _ _ _ _ ?_
    · obtain ⟨x, ex, rx⟩ := vals_at r h1
      obtain ⟨y, ey, ry⟩ := vals_at r2 h2
      exact (he j x y ex ey).at rfl I (by show X.A.units + 1 + 8 < cLine; omega) rx ry
    · rw [show its.toArray.size = xs.length by simp; omega, show its2.toArray.size = ys.length by simp; omega]
      exact ⟨.bl _, H, I, rfl, q'⟩
/-- two lists of ints -/
theorem all_ints : ∀ (xs ys : List Int), xs.length = ys.length → ((List.range xs.length).all fun j => xs[j]? == ys[j]?) = decide (xs = ys) := by
  intro xs ys hl
  rw [Bool.eq_iff_iff, decide_eq_true_eq]
  constructor
  · intro h
    apply List.ext_getElem? 
    intro j
    by_cases hj : j < xs.length
    · have := List.all_eq_true.mp h j (List.mem_range.mpr hj)
      simpa using this
    · rw [List.getElem?_eq_none (by omega), List.getElem?_eq_none (by omega)]
  · intro h
    subst h
    simp
theorem EqT.ints {K : PySem.W.Frag} {n : Nat} {a b : Addr} {xs ys : List Int} (ha : SqL K H a (xs.map V.int)) (hb : SqL K H b (ys.map V.int)) : EqT K H n (.ref a) (.ref b) (decide (xs = ys)) := by
  by_cases hl : xs.length = ys.length
  · have q := EqT.lists (n := n) (e := fun j => xs[j]? == ys[j]?) ha hb (by simpa using hl) (fun j x y ex ey => by
      rw [List.getElem?_map] at ex ey
      cases e1 : xs[j]? with
      | none => rw [e1] at ex; cases ex
      | some i =>
        rw [e1] at ex; cases ex
        cases e2 : ys[j]? with
        | none => rw [e2] at ey; cases ey
        | some k =>
          rw [e2] at ey; cases ey
          have : (some i == some k) = eqV (.int i) (.int k) := by simp [eqV]
          rw [this]
          exact .flat rfl rfl)
    rw [List.length_map, all_ints xs ys hl] at q
    exact q
  · have : decide (xs = ys) = false := decide_eq_false (fun z => hl (by rw [z]))
    rw [this]
    exact .longer ha hb (by simpa using hl)
theorem EqD.ints {K : PySem.W.Frag} {n : Nat} {a b : Addr} {xs ys : List Int} (ha : SqL K H a (xs.map V.int)) (hb : SqL K H b (ys.map V.int)) (ne : a ≠ b) : EqD K H (n + 1) (.ref a) (.ref b) (decide (xs = ys)) := by
  by_cases hl : xs.length = ys.length
  · have q := EqD.lists (n := n) (e := fun j => xs[j]? == ys[j]?) ha hb (by simpa using hl) (fun j x y ex ey => by
      rw [List.getElem?_map] at ex ey
      cases e1 : xs[j]? with
      | none => rw [e1] at ex; cases ex
      | some i =>
        rw [e1] at ex; cases ex
        cases e2 : ys[j]? with
        | none => rw [e2] at ey; cases ey
        | some k =>
          rw [e2] at ey; cases ey
          have : (some i == some k) = eqV (.int i) (.int k) := by simp [eqV]
          rw [this]
          exact .flat rfl rfl) ne
    rw [List.length_map, all_ints xs ys hl] at q
    exact q
  · have : decide (xs = ys) = false := decide_eq_false (fun z => hl (by rw [z]))
    rw [this]
    exact .longer ha hb (by simpa using hl) ne

/-! ## is True, is not True -/

/-! ## isinstance -/
def rInst (K : PySem.W.Frag) : List V → Hp → VK → Prop := fun xs H Q => ∃ x n t b, xs = [x, .ty n] ∧ TyOf K H x t ∧ PySem.W.kitOne K t (.type n) = some b ∧ Q (.bl b) H
theorem call_inst : CallR X (.builtin "isinstance") (rInst X.K) := by
  intro pins s σ H xs us Q I rv h
  obtain ⟨x, n, t, b, rfl, ty, e, q⟩ := h
  obtain ⟨u, v, rfl, r1, r2⟩ := rv.two
  cases r2
  exact isinst_ok I r1 ty e fun tk => ⟨.bl b, H, I.tok tk, rfl, q⟩

/-! ## "".join -/
def rJoin (K : PySem.W.Frag) : V → List V → Hp → VK → Prop := fun x vs H Q => ∃ sep a zs, x = .str sep ∧ vs = [.ref a] ∧ SqL K H a (zs.map V.str) ∧ (zs.map (·.length)).sum + zs.length * sep.length ≤ 16777216 ∧ Q (.str (Txt.join sep zs)) H
end
end L2

set_option Elab.async false
set_option linter.all false
set_option maxRecDepth 100000
namespace L2
open PySem PySem.Spec PyProof.Rows

/-! ## defs: what a call needs of one, in one word -/
/-- a def of the text, its defaults at dV -/
structure FunD (K : PySem.W.Frag) (x qual : Str) (st : Stmt) (dV : Value) (f : Addr) (fd : FuncData) : Prop where
  ex : ∃ (oc : Value) (od : Option Addr) (kV doc pm : Value) (an : Option Addr) (cdv ct : Value) (osl : Array (Option Value)),
    fd = PySem.W.fnOf x qual (defArgs st) (defBody st) (defScope st) dV kV doc pm an cdv ct ∧ K.lookup f = some ⟨oc, od, .func fd, osl⟩ ∧ PySem.W.codeIn K cdv qual = true
  kp : PySem.W.keepIn K (.ref f) = true
theorem funD_mk {K : PySem.W.Frag} {x qual : Str} {st : Stmt} {dV : Value} {f : Addr} {oc : Value} {od an : Option Addr} {osl : Array (Option Value)} {kV doc pm cdv ct : Value}
    (l : K.lookup f = some ⟨oc, od, .func (PySem.W.fnOf x qual (defArgs st) (defBody st) (defScope st) dV kV doc pm an cdv ct), osl⟩)
    (c : PySem.W.codeIn K cdv qual = true) (k : PySem.W.keepIn K (.ref f) = true) : FunD K x qual st dV f (PySem.W.fnOf x qual (defArgs st) (defBody st) (defScope st) dV kV doc pm an cdv ct) := ⟨⟨oc, od, kV, doc, pm, an, cdv, ct, osl, rfl, l, c⟩, k⟩
section
variable {P : Program} {w : World} {K : PySem.W.Frag} {mg : Str → Option Value} {base : Heap}
theorem FunD.ok {x qual : Str} {st : Stmt} {dV : Value} {f : Addr} {fd : FuncData} {N ps : List Str} {k : Nat} {sp : Sp} (F : FunD K x qual st dV f fd) (S : FnScope N ps (defScope st)) (len : ∀ vs H Q E, sp vs H Q E → vs.length = ps.length)
    (hbody : ∀ (cdv : Value) (A : Around) (outer : List Env) (s : Shared) (H : Hp) (vs : List V) (Q : VK) (E : XK), Room k (A.deeper (envOfC qual (defScope st) s.heap.objs.size f cdv)) → sp vs H Q E →
      ∃ t, PSs (cxOf CX0 P w K mg base N qual (defScope st) f cdv A outer s H E).nox (defBody st) t ∧ t { nx := fun _ H' => Q .non H', rt := Q } (start N vs) H) : FnOk P w K mg base CX0 (k + 1) f fd ps sp := by
  obtain ⟨oc, od, kV, doc, pm, an, cdv, ct, osl, rfl, lk, hcd⟩ := F.ex
  refine fn_of lk hcd S len fun A outer s H vs Q E hr hsp => ?_
  obtain ⟨t, h, q⟩ := hbody cdv A outer s H vs Q E hr hsp
  exact ⟨t, h.nox, q⟩
theorem FunD.binds {x qual : Str} {st : Stmt} {f : Addr} {fd : FuncData} {ps : List Str} (F : FunD K x qual st .none f fd)
    (h : ∀ (kV doc pm : Value) (an : Option Addr) (cdv ct : Value) (us : List Value), us.length = ps.length → bindArgs (PySem.W.fnOf x qual (defArgs st) (defBody st) (defScope st) .none kV doc pm an cdv ct) ⟨us, []⟩ = pure (ps.zip us)) : Binds K fd ps [] := by
  obtain ⟨oc, od, kV, doc, pm, an, cdv, ct, osl, rfl, lk, hcd⟩ := F.ex
  exact .all (h kV doc pm an cdv ct)
/-- the def x of the module, known by a promise: at most k calls deep -/
def Fn (P : Program) (w : World) (K : PySem.W.Frag) (mg : Str → Option Value) (base : Heap) (CX : CXT) (x : Str) (ps : List Str) (dvs : List V) (k : Nat) (sp : Sp) : Prop :=
  ∃ (f : Addr) (fd : FuncData) (ds : List Value), FnOk P w K mg base CX k f fd ps sp ∧ Binds K fd ps ds ∧ Vals dvs ds ∧ PySem.W.keepIn K (.ref f) = true ∧ mg x = some (.ref f)
end
section
variable {X : Cx} {CX : CXT} {k : Nat} {ps : List Str} {sp : Sp} {dvs : List V} {x : Str} {p pos : Pos} {e : Expr} {es : List Expr} {t : TA}
theorem pe_fnX {j : Nat} {E : XK} (F : Fn X.prog X.w X.K X.mg X.base CX x ps dvs k sp) (hr : Room j X.A) (hj : k ≤ j) (hg : Gl X x) (hx : Passes CX X E) (ha : PA X (e :: es) t) (hdb : (x == ("__debug__" : Str)) = false := by decide)
    (he : starEach (e :: es) X.env = (false, eval e X.env) :: starEach es X.env := by rfl) (hpl : (backTo pos (starEach es X.env)).any (·.1) = false := by rfl) : PE X (.Call (.Name x p) (e :: es) [] pos) (tCall sp dvs E t) := by
  obtain ⟨f, fd, ds, F, hb, hd, hk, hm⟩ := F
  exact pe_call F (hr.mono hj) hg hm hk hb hd hx ha hdb he hpl
theorem pe_fn {j : Nat} (F : Fn X.prog X.w X.K X.mg X.base CX0 x ps dvs k sp) (hr : Room j X.A) (hj : k ≤ j) (hg : Gl X x) (ha : PA X (e :: es) t) (hdb : (x == ("__debug__" : Str)) = false := by decide)
    (he : starEach (e :: es) X.env = (false, eval e X.env) :: starEach es X.env := by rfl) (hpl : (backTo pos (starEach es X.env)).any (·.1) = false := by rfl) : PE X (.Call (.Name x p) (e :: es) [] pos) (tCall sp dvs E0 t) :=
  pe_fnX F hr hj hg pass0 ha hdb he hpl
theorem compOk {scope : Scope} {N' : List Str} {js : List (Option Nat)} {N : List Str} {sc : Scope} (h1 : X.N = N) (h2 : X.env.scope = sc) (kind : scope.kind = .function) (nocell : ∀ y ∈ scope.names, y.2 ≠ .cell) (loc : ∀ y ∈ scope.names, y.2 = .local → scope.names.lookup y.1 = some .local)
    (free : ∀ y ∈ scope.names, y.2 = .free → sc.names.lookup y.1 = some .cell) (len : js.length = N'.length) (jok : jsOk N N' scope js = true) : CompOk X scope N' js := by
  subst h1 h2
  exact ⟨kind, nocell, loc, free, len, jok⟩
end

/-! ## heaps -/
theorem same_upd_new {H : Hp} {p : Addr} (h : H p = none) (o : HO) : Same H (upd H p o) := fun b u q => by rw [upd_ne (ne_of_none q h)]; exact q
/-- what was new stays apart when it is changed -/
theorem Same.upd {H H' : Hp} {p : Addr} (h : Same H H') (n : H p = none) (o : HO) : Same H (upd H' p o) := fun b u q => by rw [upd_ne (ne_of_none q n)]; exact h b u q
theorem atI_int {xs : List Int} {i : Int} {v : Int} (h0 : 0 ≤ i) (h : xs[i.toNat]? = some v) : atI (xs.map V.int) i = some (.int v) := by
  have e : i = ((i.toNat : Nat) : Int) := by omega
  rw [e]
  exact atI_nat (by rw [List.getElem?_map, h]; rfl)
theorem small60 {n : Nat} (h : n ≤ 1000000) : n ≤ sizeLine := Nat.le_trans h (by decide)
end L2

set_option Elab.async false
set_option linter.all false
set_option maxRecDepth 100000
namespace L2
open PySem PySem.Spec PyProof.Rows
theorem toB {Q : VK} {H : Hp} {b b' : Bool} (q : Q (.bl b) H) (e : b = b') : Q (.bl b') H := e ▸ q
theorem toI {Q : VK} {H : Hp} {b b' : Int} (q : Q (.int b) H) (e : b = b') : Q (.int b') H := e ▸ q
/-! ## loops over pairs -/
theorem for_enum {K : PySem.W.Frag} {a : Addr} {xs : List V} {g : TG} {tb : TS} {D : Ends} {σ : St} {H : Hp} (Pv : Nat → St → Hp → Prop) (h0 : Pv 0 σ H) (hl : ∀ i σ H, i ≤ xs.length → Pv i σ H → SqL K H a xs)
    (hs : ∀ i x σ H p, xs[i]? = some x → Pv i σ H → H p = none → g (.ref p) σ (upd H p (.tup [.int i, x])) fun σ2 H2 => tb { D with nx := Pv (i + 1), ct := Pv (i + 1), bk := D.nx } σ2 H2) (hd : ∀ σ H, Pv xs.length σ H → D.nx σ H) :
    ∃ W : Nat → Nat → St → Hp → Prop, (∃ m, W 0 m σ H) ∧ ∀ i m σ H, W i m σ H →
      ((Ite K a).stop i H ∧ D.nx σ H) ∨ ((Ite K a).go i H ∧ ∃ N : St → Hp → Prop, (∀ σ' H', N σ' H' → ∃ m', m' < m ∧ W (i + 1) m' σ' H') ∧ ∀ x H', (Ite K a).yld i H x H' → g x σ H' fun σ2 H2 => tb { D with nx := N, ct := N, bk := D.nx } σ2 H2) := by
  refine ⟨fun i m σ H => m = xs.length - i ∧ i ≤ xs.length ∧ Pv i σ H, ⟨xs.length, by simp, Nat.zero_le _, h0⟩, ?_⟩
  rintro i m σ H ⟨rfl, hi, p⟩
  have q := hl i σ H hi p
  by_cases hlt : i < xs.length
  · refine .inr ⟨⟨xs, xs[i], q, by simp [hlt]⟩, Pv (i + 1), fun σ' H' p' => ⟨xs.length - (i + 1), by omega, rfl, hlt, p'⟩, fun x H' y => ?_⟩
    obtain ⟨r, v, rfl, hr, rfl, y⟩ := y
    exact hs i v σ H r (y xs q) p hr
  · have e : i = xs.length := by omega
    subst e
    exact .inl ⟨⟨xs, q, Nat.le_refl _⟩, hd σ H p⟩
/-! ## a list comprehension without tests, the heap growing only -/
theorem comp_all {J : It} {g : TG} {te : TE} {p : Addr} {H : Hp} {σ0 : St} {Fin : Hp → Prop} (n : Nat) (items : Nat → V) (Sg : St → Prop) (hn : n ≤ sizeLine) (h0 : Sg σ0) (hp : H p = none)
    (hJ : ∀ i H', i < n → Same H H' → J.go i H') (hE : ∀ H', Same H H' → J.stop n H')
    (ht : ∀ i x σ' H' H2 (k : St → V → Hp → Prop), i < n → Sg σ' → Same H H' → J.yld i H' x H2 → (∀ σ3 y H4, Sg σ3 → y = items i → Same H' H4 → k σ3 y H4) → g x σ' H2 fun σ3 H3 => te σ3 H3 fun y H4 => k σ3 y H4)
    (fin : ∀ H', Same H H' → H' p = some (.lst ((List.range n).map items)) → Fin H') :
    ∃ W : Nat → Nat → List V → St → Hp → Prop, (∃ m, W 0 m [] σ0 (upd H p (.lst []))) ∧ CompW J g tAlways te p W Fin := by
  refine ⟨fun i m ys σ' H' => m = n - i ∧ i ≤ n ∧ ys = (List.range i).map items ∧ Sg σ' ∧ Same H H' ∧ H' p = some (.lst ys), ⟨n, by simp, Nat.zero_le _, by simp, h0, same_upd_new hp _, upd_same⟩, ?_⟩
  rintro i m ys σ' H' ⟨rfl, hi, rfl, hS, hH, hacc⟩
  refine ⟨hacc, ?_⟩
  by_cases hlt : i < n
  · refine .inr ⟨hJ i H' hlt hH, fun x H2 y => ?_⟩
    refine ht i x σ' H' H2 (fun σ2 y H4 => H4 p = some (.lst ((List.range i).map items)) ∧ ((List.range i).map items).length < sizeLine ∧ ∃ m', m' < n - i ∧ m' = n - (i + 1) ∧ i + 1 ≤ n ∧ (List.range i).map items ++ [y] = (List.range (i + 1)).map items ∧ Sg σ2 ∧ Same H (upd H4 p (.lst ((List.range i).map items ++ [y]))) ∧ upd H4 p (.lst ((List.range i).map items ++ [y])) p = some (.lst ((List.range i).map items ++ [y]))) hlt hS hH y (fun σ3 y H4 s3 ey sm => ?_)
    subst ey
    refine ⟨sm _ _ hacc, by rw [List.length_map, List.length_range]; omega, n - (i + 1), by omega, rfl, hlt, ?_, s3, (hH.trans sm).upd hp _, upd_same⟩
    rw [List.range_succ, List.map_append]
    rfl
  · have e : i = n := by omega
    subst e
    exact .inl ⟨hE H' hH, fin H' hH hacc⟩
end L2

set_option Elab.async false
set_option linter.all false
set_option maxRecDepth 100000
namespace L2
open PySem PySem.Spec PyProof.Rows
end L2
namespace L2
open PySem PySem.Spec PyProof.Rows
section
variable {X : Cx} {K : PySem.W.Frag} {pos : Pos}
theorem ix_listK (h : X.K = K) : IxR X (rIxL K) := h ▸ ix_list
theorem call_len_seqK (h : X.K = K) : CallR X (.builtin "len") (fun xs H Q => ∃ p ys, xs = [.ref p] ∧ (SqL K H p ys ∨ SqT K H p ys) ∧ Q (.int ys.length) H) := h ▸ call_len_seq
end
end L2
namespace L2
theorem ixN_nat {n i : Nat} (h : i < n) : ixN n (i : Int) = some i := by
  unfold ixN
  rw [if_pos (by omega), if_pos (by omega)]
  simp
theorem atI_lt {xs : List Int} {i : Int} (h0 : 0 ≤ i) (h : i < xs.length) : ∃ v, atI (xs.map V.int) i = some (.int v) := by
  obtain ⟨v, hv⟩ : ∃ v, xs[i.toNat]? = some v := ⟨_, List.getElem?_eq_getElem (by omega)⟩
  exact ⟨v, atI_int h0 hv⟩
end L2
namespace L2
open PySem PySem.Spec PyProof.Rows
/-- a def of two parameters, the second with a default, called with one -/
theorem binds_d1 {K : PySem.W.Frag} {fd : FuncData} {x y : Str} {T : Addr} {o : Obj} {d : Value} {n : Nat} (hd : fd.defaults = .ref T) (ht : K.lookup T = some o) (hs : o.data = .seq #[d] n)
    (h : ∀ u : Value, ∃ k : Option (Array Value) → Sem (List (Str × Value)), bindArgs fd ⟨[u], []⟩ = seqItems? fd.defaults >>= k ∧ k (some #[d]) = pure [(x, u), (y, d)]) : Binds K fd [x, y] [d] := by
  intro s us hK hl
  have hl1 : us.length = 1 := by simpa using hl
  match us, hl1 with
  | [u], _ =>
    obtain ⟨k, h1, h2⟩ := h u
    exact .of_defaults hd (hK _ _ ht) hs h1 h2
end L2

set_option Elab.async false
set_option linter.all false
set_option maxRecDepth 100000
namespace L2
open PySem PySem.Spec PyProof.Rows
section
variable {X : Cx} {a b c d : Expr} {ta tb tc td : TE} {pos : Pos}
/-- a op b op c op d, as a test -/
def tChain3 (r r' r'' : R2) (ta tb tc td : TE) : TT := fun σ H Q => ta σ H fun x H1 => tb σ H1 fun y H2 => r x y H2 fun z H3 => ∃ k, z = .bl k ∧
  (if k = true then tc σ H3 fun w' H4 => r' y w' H4 fun z2 H5 => ∃ k2, z2 = .bl k2 ∧ (if k2 = true then td σ H5 fun v' H6 => r'' w' v' H6 fun z3 H7 => ∃ k3, z3 = .bl k3 ∧ Q k3 H7 else Q false H5) else Q false H3)
theorem pt_chain3 {op op' op'' : CmpOp} {r r' r'' : R2} (ho : OpR X (compareOp op) r) (ho' : OpR X (compareOp op') r') (ho'' : OpR X (compareOp op'') r'') (ha : PE X a ta) (hb : PE X b tb) (hc : PE X c tc) (hd : PE X d td)
    (hm : lastMarks [op, op', op''] [b, c, d] = false := by with_unfolding_all rfl) : PT X (.Compare a [op, op', op''] [b, c, d] pos) (tChain3 r r' r'' ta tb tc td) := by
  intro pins s σ H Q I h
  refine isTrue_chain (thn (ha pins s σ H _ I h) fun v s1 ⟨x, H1, I1, r1, q1⟩ => test_link (thn (hb pins s1 σ H1 _ I1 q1) fun u s2 ⟨y, H2, I2, r2, q2⟩ =>
    thn (ho pins s2 σ H2 x y v u _ I2 r1 r2 q2) fun e s3 ⟨z, H3, I3, r3, k, ez, q3⟩ => ?_)) hm
  subst ez
  cases r3
  refine wpAny_truthy_bool ?_
  cases k with
  | false => exact ite_ff ⟨H3, I3, q3⟩
  | true =>
    refine ite_tt (test_link (thn (hc pins s3 σ H3 _ I3 q3) fun w' s4 ⟨z', H4, I4, r4, q4⟩ => thn (ho' pins s4 σ H4 y z' u w' _ I4 r2 r4 q4) fun d' s5 ⟨z2, H5, I5, r5, k2, e2, q5⟩ => ?_))
    subst e2
    cases r5
    refine wpAny_truthy_bool ?_
    cases k2 with
    | false => exact ite_ff ⟨H5, I5, q5⟩
    | true =>
      refine ite_tt (test_last (thn (hd pins s5 σ H5 _ I5 q5) fun v' s6 ⟨z6, H6, I6, r6, q6⟩ => thn (ho'' pins s6 σ H6 z' z6 w' v' _ I6 r4 r6 q6) fun d6 s7 ⟨z7, H7, I7, r7, k3, e3, q7⟩ => ?_))
      subst e3
      cases r7
      exact wpAny_truthy_bool ⟨H7, I7, q7⟩
end
/-- a def of two parameters, the second with a default, called with both -/
theorem binds_d2 {K : PySem.W.Frag} {fd : FuncData} {x y : Str} {T : Addr} {o : Obj} {d : Value} {n : Nat} (hd : fd.defaults = .ref T) (ht : K.lookup T = some o) (hs : o.data = .seq #[d] n)
    (h : ∀ u v : Value, ∃ k : Option (Array Value) → Sem (List (Str × Value)), bindArgs fd ⟨[u, v], []⟩ = seqItems? fd.defaults >>= k ∧ k (some #[d]) = pure [(x, u), (y, v)]) : Binds K fd [x, y] [] := by
  intro s us hK hl
  have hl1 : us.length = 2 := by simpa using hl
  match us, hl1 with
  | [u, v], _ =>
    obtain ⟨k, h1, h2⟩ := h u v
    exact .of_defaults hd (hK _ _ ht) hs h1 h2
end L2

set_option Elab.async false
set_option linter.all false
set_option maxRecDepth 100000
namespace L2
open PySem PySem.Spec PyProof.Rows

/-! ### lists of pairs as tables -/
section
variable {κ : Type} [DecidableEq κ]
def valV (kvs : List (κ × V)) (k : κ) : Option V := (kvs.find? fun kv => decide (kv.1 = k)).map (·.2)
/-- in its place, or at the end -/
def putK (kvs : List (κ × V)) (k : κ) (v : V) : List (κ × V) :=
  if (kvs.any fun kv => decide (kv.1 = k)) = true then kvs.map (fun kv => if kv.1 = k then (kv.1, v) else kv) else kvs ++ [(k, v)]
def dropK (kvs : List (κ × V)) (k : κ) : List (κ × V) := kvs.filter fun kv => decide (kv.1 ≠ k)

theorem valV_pos {p : κ × V} {r : List (κ × V)} {k : κ} (e : p.1 = k) : valV (p :: r) k = some p.2 := by simp [valV, List.find?_cons, e]
theorem valV_neg {p : κ × V} {r : List (κ × V)} {k : κ} (e : ¬ p.1 = k) : valV (p :: r) k = valV r k := by simp [valV, List.find?_cons, e]
theorem valV_any (k : κ) : ∀ kvs : List (κ × V), (kvs.any fun kv => decide (kv.1 = k)) = (valV kvs k).isSome
  | [] => rfl
  | p :: r => by
    rw [List.any_cons]
    by_cases e : p.1 = k
    · simp only [valV_pos e, decide_eq_true e, Bool.true_or, Option.isSome_some]
    · rw [valV_neg e, decide_eq_false e, Bool.false_or]; exact valV_any k r
theorem valV_map (k j : κ) (y : V) : ∀ kvs : List (κ × V), valV (kvs.map fun kv => if kv.1 = k then (kv.1, y) else kv) j = (valV kvs j).map fun x => if j = k then y else x
  | [] => rfl
  | p :: r => by
    have ih := valV_map k j y r
    rw [List.map_cons]
    by_cases h : p.1 = k
    · rw [if_pos h]
      by_cases e : p.1 = j
      · rw [valV_pos (p := (p.1, y)) e, valV_pos e, Option.map_some, if_pos (e.symm.trans h)]
      · rw [valV_neg (p := (p.1, y)) e, valV_neg e, ih]
    · rw [if_neg h]
      by_cases e : p.1 = j
      · rw [valV_pos (p := p) e, valV_pos e, Option.map_some, if_neg (fun z => h (e.trans z))]
      · rw [valV_neg (p := p) e, valV_neg e, ih]
theorem valV_snoc (k j : κ) (y : V) : ∀ kvs : List (κ × V), valV kvs k = none → valV (kvs ++ [(k, y)]) j = if j = k then some y else valV kvs j
  | [], _ => by
    by_cases e : k = j
    · rw [if_pos e.symm]; exact valV_pos (p := (k, y)) e
    · rw [if_neg (fun z => e z.symm)]; exact valV_neg (p := (k, y)) e
  | p :: r, hn => by
    rw [List.cons_append]
    have hk : ¬ p.1 = k := fun z => by rw [valV_pos z] at hn; cases hn
    rw [valV_neg hk] at hn
    have ih := valV_snoc k j y r hn
    by_cases e : p.1 = j
    · rw [valV_pos e, valV_pos e, if_neg (fun z => hk (e.trans z))]
    · rw [valV_neg e, valV_neg e, ih]
theorem valV_put (kvs : List (κ × V)) (k j : κ) (y : V) : valV (putK kvs k y) j = if j = k then some y else valV kvs j := by
  unfold putK
  by_cases a : (kvs.any fun kv => decide (kv.1 = k)) = true
  · rw [if_pos a, valV_map]
    rw [valV_any] at a
    by_cases e : j = k
    · obtain ⟨x, hx⟩ := Option.isSome_iff_exists.mp a
      rw [if_pos e, e, hx, Option.map_some, if_pos rfl]
    · rw [if_neg e]
      cases valV kvs j with
      | none => rfl
      | some x => rw [Option.map_some, if_neg e]
  · rw [if_neg a]
    refine valV_snoc k j y kvs ?_
    rw [valV_any] at a
    cases q : valV kvs k with
    | none => rfl
    | some x => rw [q] at a; exact (a rfl).elim
theorem length_putK (kvs : List (κ × V)) (k : κ) (v : V) : (putK kvs k v).length ≤ kvs.length + 1 := by
  unfold putK
  split
  · rw [List.length_map]; omega
  · rw [List.length_append, List.length_cons, List.length_nil]; omega

theorem RelO.isSome_eq {o : Option V} {u : Option Value} (r : RelO o u) : o.isSome = u.isSome := by
  cases o with
  | none => cases u with
    | none => rfl
    | some _ => exact (show False from r).elim
  | some _ => cases u with
    | none => exact (show False from r).elim
    | some _ => rfl

/-- raw tables of the same keys -/
theorem KV.val {kvs : List (κ × V)} {vs : List (κ × Value)} (r : KV kvs vs) (k : κ) : RelO (valV kvs k) (valueAt vs k) := by
  unfold KV at r
  induction r with
  | nil => exact True.intro
  | @cons p q ps qs h t ih =>
    obtain ⟨h1, h2⟩ := h
    by_cases e : p.1 = k
    · have e' : q.1 = k := h1.symm.trans e
      have b : valueAt (q :: qs) k = some q.2 := by simp [valueAt, List.find?_cons, e']
      rw [valV_pos e, b]; exact h2
    · have e' : ¬ q.1 = k := fun z => e (h1.trans z)
      have b : valueAt (q :: qs) k = valueAt qs k := by simp [valueAt, List.find?_cons, e']
      rw [valV_neg e, b]; exact ih
theorem KV.any {kvs : List (κ × V)} {vs : List (κ × Value)} (r : KV kvs vs) (k : κ) : (kvs.any fun kv => decide (kv.1 = k)) = vs.any fun kv => decide (kv.1 = k) := by
  unfold KV at r
  induction r with
  | nil => rfl
  | cons h t ih => rw [List.any_cons, List.any_cons, ih, h.1]
theorem KV.repl {kvs : List (κ × V)} {vs : List (κ × Value)} (r : KV kvs vs) (k : κ) {y : V} {u : Value} (ry : RelV y u) :
    KV (kvs.map fun kv => if kv.1 = k then (kv.1, y) else kv) (vs.map fun kv => if kv.1 = k then (kv.1, u) else kv) := by
  unfold KV at r ⊢
  induction r with
  | nil => exact .nil
  | @cons p q ps qs h t ih =>
    rw [List.map_cons, List.map_cons]
    refine .cons ?_ ih
    obtain ⟨h1, h2⟩ := h
    by_cases e : p.1 = k
    · rw [if_pos e, if_pos (h1.symm.trans e)]; exact ⟨h1, ry⟩
    · rw [if_neg e, if_neg (fun z => e (h1.trans z))]; exact ⟨h1, h2⟩
theorem KV.put {kvs : List (κ × V)} {vs : List (κ × Value)} (r : KV kvs vs) (k : κ) {y : V} {u : Value} (ry : RelV y u) : KV (putK kvs k y) (stored vs k u) := by
  unfold putK stored
  rw [r.any k]
  by_cases e : (vs.any fun kv => decide (kv.1 = k)) = true
  · rw [if_pos e, if_pos e]; exact r.repl k ry
  · rw [if_neg e, if_neg e]; exact Paired.snoc r ⟨rfl, ry⟩
theorem KV.length {kvs : List (κ × V)} {vs : List (κ × Value)} (r : KV kvs vs) : kvs.length = vs.length := Paired.length r
end


/-! ### a tracked dict, its keys ints and texts or tuples of these -/
theorem kV_is {P : Program} {w : World} {k : Key} {u : Value} (r : RelV (kV k) u) : (mixKind P w).is k u = true := by
  cases k with
  | inl i => obtain ⟨t, e⟩ := (show ∃ t, u = Value.int i t from r); subst e; exact mixKind_int P w i t
  | inr x => obtain ⟨t, e⟩ := (show ∃ t, u = Value.str x t from r); subst e; exact mixKind_str P w x t
theorem items_are {P : Program} {w : World} : ∀ {ks : List Key} {us : List Value}, Vals (ks.map kV) us → ItemsAre (mixKind P w) ks us
  | [], _, r => by rw [List.map_nil] at r; cases r; exact .nil
  | k :: ks, _, r => by
    rw [List.map_cons] at r
    cases r with
    | cons h t => exact .cons (kV_is h) (items_are t)

/-- raw entries of a dict with tuple keys -/
abbrev KT (H : Hp) : List (List Key × V) → List (List Key × Addr × Value) → Prop := Paired fun p q => p.1 = q.1 ∧ H q.2.1 = some (.tup (p.1.map kV)) ∧ RelV p.2 q.2.2
theorem KT.val {H : Hp} {kvs : List (List Key × V)} {xs : List (List Key × Addr × Value)} (r : KT H kvs xs) (k : List Key) : RelO (valV kvs k) ((atKey xs k).map (·.2)) := by
  induction r with
  | nil => exact True.intro
  | @cons p q ps qs h t ih =>
    obtain ⟨h1, _, h2⟩ := h
    by_cases e : p.1 = k
    · have e' : q.1 = k := h1.symm.trans e
      have b : atKey (q :: qs) k = some q.2 := by simp [atKey, List.find?_cons, e']
      rw [valV_pos e, b]; exact h2
    · have e' : ¬ q.1 = k := fun z => e (h1.trans z)
      have b : atKey (q :: qs) k = atKey qs k := by simp [atKey, List.find?_cons, e']
      rw [valV_neg e, b]; exact ih
theorem KT.repl {H : Hp} {kvs : List (List Key × V)} {xs : List (List Key × Addr × Value)} (r : KT H kvs xs) (k : List Key) {y : V} {u : Value} (ry : RelV y u) :
    KT H (kvs.map fun kv => if kv.1 = k then (kv.1, y) else kv) (xs.map (putAt k u)) := by
  induction r with
  | nil => exact .nil
  | @cons p q ps qs h t ih =>
    rw [List.map_cons, List.map_cons]
    refine .cons ?_ ih
    obtain ⟨h1, h2, h3⟩ := h
    unfold putAt
    by_cases e : p.1 = k
    · rw [if_pos e, if_pos (h1.symm.trans e)]; exact ⟨h1, h2, ry⟩
    · rw [if_neg e, if_neg (fun z => e (h1.trans z))]; exact ⟨h1, h2, h3⟩
theorem KT.put {H : Hp} {kvs : List (List Key × V)} {xs : List (List Key × Addr × Value)} (r : KT H kvs xs) (k : List Key) {b : Addr} {y : V} {u : Value} (hb : H b = some (.tup (k.map kV))) (ry : RelV y u) :
    KT H (putK kvs k y) (storedH xs k b u) := by
  have e : (kvs.any fun kv => decide (kv.1 = k)) = (atKey xs k).isSome := by
    rw [valV_any, (r.val k).isSome_eq, Option.isSome_map]
  unfold putK storedH
  rw [e]
  by_cases q : (atKey xs k).isSome = true
  · rw [if_pos q, if_pos q]; exact r.repl k ry
  · rw [if_neg q, if_neg q]; exact Paired.snoc r ⟨rfl, hb, ry⟩
theorem KT.keeps {H H' : Hp} {kvs : List (List Key × V)} {xs : List (List Key × Addr × Value)} (r : KT H kvs xs) (ht : ∀ b ys, H b = some (.tup ys) → H' b = some (.tup ys)) : KT H' kvs xs :=
  Paired.mapP r fun _ _ z => ⟨z.1, ht _ _ z.2.1, z.2.2⟩

section
variable {P : Program} {w : World} {H : Hp} {h : Heap} {a : Addr}
theorem rd_of {u : HO} (ok : HOk P w H h) (e : Rd H a u) : ObjOk P w H h a u := e.ok ok
theorem dk_rd {kvs : List (Key × V)} (ok : HOk P w H h) (e : Rd H a (.dK kvs)) : kvs.length ≤ sizeLine ∧ (a == sysModules) = false ∧ ∃ vs, KV kvs vs ∧ h.DictOf (mixKind P w) a vs :=
  show ObjOk P w H h a (.dK kvs) from rd_of ok e
theorem dk_of {kvs : List (Key × V)} (ok : HOk P w H h) (e : H a = some (.dK kvs)) : kvs.length ≤ sizeLine ∧ (a == sysModules) = false ∧ ∃ vs, KV kvs vs ∧ h.DictOf (mixKind P w) a vs := dk_rd ok (.inl e)
/-- a tracked tuple of ints and texts is a key -/
theorem key_of {ks : List Key} (ok : HOk P w H h) (e : H a = some (.tup (ks.map kV))) : (tupleKind (mixKind P w)).is h ks a := by
  obtain ⟨_, its, r, o, h1, h2, n, h3⟩ := (show ObjOk P w H h a (.tup (ks.map kV)) from ok a _ e)
  exact ⟨o, its.toArray, n, h1, h2, h3, by simpa using items_are r⟩
theorem dt_rd {kvs : List (List Key × V)} (ok : HOk P w H h) (e : Rd H a (.dT kvs)) : kvs.length ≤ sizeLine ∧ (a == sysModules) = false ∧
    ∃ xs, KT H kvs xs ∧ h.DictOfH (tupleKind (mixKind P w)) a xs := by
  obtain ⟨z, y, xs, r, o, es, ep, h1, h2, h3, h4, h5⟩ := (show ObjOk P w H h a (.dT kvs) from rd_of ok e)
  refine ⟨z, y, xs, r, o, es, ep, h1, h2, h3, h4, fun x hx => ?_, h5⟩
  have all : ∀ {l : List (List Key × V)} {m : List (List Key × Addr × Value)}, KT H l m → ∀ x ∈ m, (tupleKind (mixKind P w)).is h x.1 x.2.1 := by
    intro l m q
    induction q with
    | nil => intro x hx; exact nomatch hx
    | @cons p q ps qs hq t ih =>
      intro x hx
      rcases List.mem_cons.mp hx with e | hx
      · subst e
        exact key_of ok (by rw [← hq.1]; exact hq.2.1)
      · exact ih x hx
  exact all r x hx
theorem dt_of {kvs : List (List Key × V)} (ok : HOk P w H h) (e : H a = some (.dT kvs)) : kvs.length ≤ sizeLine ∧ (a == sysModules) = false ∧
    ∃ xs, KT H kvs xs ∧ h.DictOfH (tupleKind (mixKind P w)) a xs := dt_rd ok (.inl e)
end

/-- what the dict at a holds at the key y -/
def DGet (H : Hp) (a : Addr) (y : V) (r : Option V) : Prop :=
  (∃ kvs k, Rd H a (.dK kvs) ∧ y = kV k ∧ r = valV kvs k) ∨ ∃ kvs k b, Rd H a (.dT kvs) ∧ y = .ref b ∧ H b = some (.tup (k.map kV)) ∧ r = valV kvs k
/-- the heap behind a[y] = v -/
def DPut (H : Hp) (a : Addr) (y v : V) (H' : Hp) : Prop :=
  (∃ kvs k, H a = some (.dK kvs) ∧ y = kV k ∧ kvs.length < sizeLine ∧ H' = upd H a (.dK (putK kvs k v))) ∨
  ∃ kvs k b, H a = some (.dT kvs) ∧ y = .ref b ∧ H b = some (.tup (k.map kV)) ∧ kvs.length < sizeLine ∧ H' = upd H a (.dT (putK kvs k v))
theorem DGet.t {H : Hp} {a b : Addr} {kvs : List (List Key × V)} {k : List Key} (e : H a = some (.dT kvs)) (eb : H b = some (.tup (k.map kV))) : DGet H a (.ref b) (valV kvs k) := .inr ⟨kvs, k, b, .inl e, rfl, eb, rfl⟩
theorem DPut.t {H : Hp} {a b : Addr} {kvs : List (List Key × V)} {k : List Key} {v : V} (e : H a = some (.dT kvs)) (eb : H b = some (.tup (k.map kV))) (hl : kvs.length < sizeLine) :
    DPut H a (.ref b) v (upd H a (.dT (putK kvs k v))) := .inr ⟨kvs, k, b, e, rfl, eb, hl, rfl⟩


section
variable {X : Cx} {pins : List (Addr × Obj)} {σ : St} {H : Hp} {s : Shared} {a : Addr} {y v : V} {u r : Value} {o : Option V} {A : Around} {E : Value → Shared → Prop}

theorem Inv.big (I : Inv X pins σ H s) : sysModules < s.heap.objs.size := by
  have h : mainGlobals < s.heap.objs.size := (I.mod.glob.keeps I.bk).lt
  exact Nat.lt_trans (by decide) h

/-- d[y], there -/
theorem d_getItem {Q : Value → Shared → Prop} (hu : A.units + 1 < cLine) (I : Inv X pins σ H s) (g : DGet H a y (some v)) (ry : RelV y u) (h : ∀ w' s', Inv X pins σ H s' → RelV v w' → Q w' s') :
    wpAny (model X.prog X.w) A (getItem (.ref a) u) Q E s := by
  rcases g with ⟨kvs, k, e, ey, l⟩ | ⟨kvs, k, b, e, ey, eb, l⟩
  · subst ey
    obtain ⟨z, hd, vs, rel, dd⟩ := dk_rd I.hok e
    obtain ⟨w', hw, rw'⟩ := RelO.some_of (v := v) (o := valueAt vs k) (by rw [l]; exact rel.val k)
    exact wpAny_getItem_of (kV_is ry) dd.mapOf hw (h w' _ (I.tok _) rw')
  · subst ey
    cases (show u = Value.ref b from ry)
    obtain ⟨z, hd, xs, rel, dd⟩ := dt_rd I.hok e
    obtain ⟨w', hw, rw'⟩ := RelO.some_of (v := v) (o := (atKey xs k).map (·.2)) (by rw [l]; exact rel.val k)
    obtain ⟨p, hp, hp2⟩ := Option.map_eq_some_iff.mp hw
    refine wpAny_getItem_heap (tupleKind_room_in1 hu) (key_of I.hok eb) dd hp ?_
    rw [hp2]
    exact h w' _ (I.tok _) rw'
/-- a dict's object is replaced -/
theorem d_write {h' : Heap} {t' : Nat} {ob : HO} (I : Inv X pins σ H s) (mu : Mut (H a)) (hs : Heap.SameBut a s.heap h') (he : ∃ q, h'.get? a = some q) (new : ObjOk X.prog X.w (upd H a ob) h' a ob) :
    Inv X pins σ (upd H a ob) { s with heap := h', toks := t' } :=
  I.write (x := a) (e := a) mu (.inl rfl) (fun b q hb z => (hs.2 b hb).trans z) he new
theorem dk_new {P : Program} {w : World} {H' : Hp} {h' : Heap} {kvs : List (Key × V)} {vs : List (Key × Value)} (z : kvs.length ≤ sizeLine) (hd : (a == sysModules) = false) (rel : KV kvs vs) (dd : h'.DictOf (mixKind P w) a vs) :
    ObjOk P w H' h' a (.dK kvs) := ⟨z, hd, vs, rel, dd⟩
/-- d[y] = v -/
theorem d_setItem {H' : Hp} {Q : Unit → Shared → Prop} (hu : A.units + 1 < cLine) (I : Inv X pins σ H s) (g : DPut H a y v H') (ry : RelV y u) (rv : RelV v r) (h : ∀ s', Inv X pins σ H' s' → Q () s') :
    wpAny (model X.prog X.w) A (setItem (.ref a) u r) Q E s := by
  rcases g with ⟨kvs, k, e, ey, l, eH⟩ | ⟨kvs, k, b, e, ey, eb, l, eH⟩
  · subst ey eH
    obtain ⟨z, hd, vs, rel, dd⟩ := dk_of I.hok e
    have hz : vs.length ≤ sizeLine := by rw [← rel.length]; exact z
    have hl : (putK kvs k v).length ≤ sizeLine := by have := length_putK kvs k v; omega
    refine wpAny_setItem_pairs (hsz := hz) (kV_is ry) dd fun h' dd' hs => h _ ?_
    have he : ∃ q, h'.get? a = some q := let ⟨q, _, _, hq, _⟩ := dd'; ⟨q, hq⟩
    exact d_write I (by rw [e]; exact True.intro) hs he (dk_new hl hd (rel.put k rv) dd')
  · subst ey eH
    cases (show u = Value.ref b from ry)
    obtain ⟨z, hd, xs, rel, dd⟩ := dt_of I.hok e
    have hz : xs.length ≤ sizeLine := by rw [← Paired.length rel]; exact z
    have hl : (putK kvs k v).length ≤ sizeLine := by have := length_putK kvs k v; omega
    refine wpAny_setItem_heap (hsz := hz) (tupleKind_room_in1 hu) (key_of I.hok eb) dd fun h' dd' hs => h _ ?_
    obtain ⟨q, es, ep, hq, h2, h3, h4, _, h5⟩ := dd'
    refine d_write I (by rw [e]; exact True.intro) hs ⟨q, hq⟩ ⟨hl, hd, _, (rel.put k eb rv).keeps fun c ys ec => ?_, q, es, ep, hq, h2, h3, h4, h5⟩
    rw [upd_ne (ne_of ec e (fun z => nomatch z))]
    exact ec
end

section
variable {X : Cx} {pins : List (Addr × Obj)} {σ : St} {H : Hp} {s : Shared} {a : Addr} {kvs : List (Key × V)} {k : Key} {u : Value} {A : Around} {E : Value → Shared → Prop}
end


/-! ### readings and rules -/
/-- the element of a subscription, not a slice -/
def NoSl (i : Expr) : Prop := ∀ ov iv, subscripted i false ov iv = operate [ov, iv] (getItem ov iv)
theorem subD_of {prog : Program} {w : World} {A : Around} {E : Value → Shared → Prop} {s : Shared} {env : Env} {value slice : Expr} {pos : Pos} {T id : String} {Q : Value → Shared → Prop}
    (hl : typeLookup (.type T) "__getitem__" = pure (some (.builtin id))) (hs : NoSl slice)
    (h : wpAny (model prog w) A (eval value env) (fun o s₁ => wpAny (model prog w) A (eval slice env) (fun i s₂ => s₂.TypeIs o T ∧ wpAny (model prog w) A (getItem o i) Q E s₂) E s₁) E s) :
    wpAny (model prog w) A (eval (.Subscript value slice pos) env) Q E s := by
  refine Subscript_ (wpAny_mono h (fun o s₁ h₁ => wpAny_mono h₁ (fun i s₂ h₂ => ?_) fun _ _ x => x) fun _ _ x => x)
  obtain ⟨hT, h₂⟩ := h₂
  unfold subscriptTail
  refine wpAny_bind ?_
  rw [getitemInPython_of_ne hT.not_modules]
  refine wpAny_bind (wpAny_specialOf hT hl ?_)
  have fin : wpAny (model prog w) A (subscripted slice false o i) (fun r s₃ => wpAny (model prog w) A (letTemporaryGo value o r >>= fun _ => pure r) Q E s₃) E s₂ := by
    rw [hs o i]
    exact wpAny_operating (wpAny_mono h₂ (fun r s₃ h₃ => wpAny_bind (wpAny_letTemporaryGo (wpAny_pure h₃))) fun _ _ x => x)
  first
    | exact wpAny_pure (wpAny_bind fin)
    | exact wpAny_bind (wpAny_pure (wpAny_bind fin))
    | exact wpAny_bind fin

theorem dict_typeIs {X : Cx} {pins : List (Addr × Obj)} {σ : St} {H : Hp} {s : Shared} {a : Addr} {y : V} {o : Option V} (I : Inv X pins σ H s) (g : DGet H a y o) : s.TypeIs (.ref a) "dict" := by
  rcases g with ⟨kvs, k, e, _, _⟩ | ⟨kvs, k, b, e, _, _, _⟩
  · obtain ⟨_, _, vs, _, dd⟩ := dk_rd I.hok e
    exact dd.typeIs
  · obtain ⟨_, _, xs, _, dd⟩ := dt_rd I.hok e
    exact dd.typeIs

/-- d[y] -/
def tDGet (td ty : TE) : TE := fun σ H Q => td σ H fun x H1 => ty σ H1 fun y H2 => ∃ a v, x = .ref a ∧ DGet H2 a y (some v) ∧ Q v H2
/-- y in d, y not in d -/
def tDIn (ty td : TE) : TE := fun σ H Q => ty σ H fun y H1 => td σ H1 fun x H2 => ∃ a o, x = .ref a ∧ DGet H2 a y o ∧ Q (.bl o.isSome) H2
def tDNotIn (ty td : TE) : TE := fun σ H Q => ty σ H fun y H1 => td σ H1 fun x H2 => ∃ a o, x = .ref a ∧ DGet H2 a y o ∧ Q (.bl (!o.isSome)) H2
/-- d[y] = v -/
def sDPut (td ty tv : TE) : TS := fun D σ H => tv σ H fun v H1 => td σ H1 fun x H2 => ty σ H2 fun y H3 => ∃ a H4, x = .ref a ∧ DPut H3 a y v H4 ∧ D.nx σ H4
/-- d[y] op= v -/
def sDAug (td ty tv : TE) (rd : V → V → Hp → VK → Prop) : TS := fun D σ H => td σ H fun x H1 => ty σ H1 fun y H2 => ∃ a v, x = .ref a ∧ DGet H2 a y (some v) ∧
  tv σ H2 fun y2 H3 => rd v y2 H3 fun z H4 => ∃ H5, DPut H4 a y z H5 ∧ D.nx σ H5
/-- del d[y] -/
def sDDel (td ty : TE) : TS := fun D σ H => td σ H fun x H1 => ty σ H1 fun y H2 => ∃ a kvs k, x = .ref a ∧ H2 a = some (.dK kvs) ∧ y = kV k ∧ (valV kvs k).isSome = true ∧ D.nx σ (upd H2 a (.dK (dropK kvs k)))

section
variable {X : Cx} {o i e value : Expr} {pos pos' tpos : Pos} {td ty tv : TE}
theorem pe_dget (hu : X.A.units + 1 < cLine) (ho : PE X o td) (hi : PE X i ty) (hs : NoSl i) : PE X (.Subscript o i pos) (tDGet td ty) := by
  intro pins s σ H Q I h
  refine subD_of PySem.F.slot_dict_getitem.lookup hs (thn (ho pins s σ H _ I h) fun u s1 ⟨x, H1, I1, rx, q1⟩ => thn (hi pins s1 σ H1 _ I1 q1) fun iv s2 ⟨y, H2, I2, ry, a, v, ex, g, q2⟩ => ?_)
  subst ex
  obtain rfl : u = Value.ref a := rx
  exact ⟨dict_typeIs I2 g, d_getItem hu I2 g ry fun w' s3 I3 rw' => ⟨v, H2, I3, rw', q2⟩⟩
theorem ps_dput (hu : X.A.units + 1 < cLine) (ho : PE X o td) (hi : PE X i ty) (hv : PE X value tv) (hs : swapsWith value (some (.Subscript o i pos')) pos.line X.env = pure false) :
    PS X (.Assign [.Subscript o i pos'] value pos) (sDPut td ty tv) := by
  intro pins s σ H D I h
  refine wpAny_Assign_Subscript (thn (hv pins s σ H _ I h) fun r s1 ⟨v, H1, I1, rv, q1⟩ => thn (ho pins s1 σ H1 _ I1 q1) fun u s2 ⟨x, H2, I2, rx, q2⟩ => thn (hi pins s2 σ H2 _ I2 q2) fun iv s3 ⟨y, H3, I3, ry, a, H4, ex, g, q3⟩ => ?_) hs
  subst ex
  obtain rfl : u = Value.ref a := rx
  exact d_setItem hu I3 g ry rv fun s4 I4 => ⟨σ, H4, I4, q3⟩
end


/-! ### displays -/
theorem dt_empty {P : Program} {w : World} {H : Hp} (h : Heap) (hb : sysModules < h.objs.size) : ObjOk P w H (h.push { cls := .type "dict", data := .dict #[] }) h.objs.size (.dT []) :=
  ⟨Nat.zero_le _, beq_eq_false_iff_ne.mpr (Ne.symm (Nat.ne_of_lt hb)), [], .nil, _, #[], 0, Heap.get?_push_size _ rfl, ⟨rfl, rfl, rfl⟩, rfl, rfl, List.nodup_nil⟩
/-- {}, to be a dict of the kind that is wanted -/
def tDNewK : TE := fun _ H Q => ∀ p, H p = none → Q (.ref p) (upd H p (.dK []))
def tDNewT : TE := fun _ H Q => ∀ p, H p = none → Q (.ref p) (upd H p (.dT []))
section
variable {X : Cx} {pos : Pos}
theorem pe_dnewT : PE X (.Dict [] [] pos) tDNewT := fun pins s σ H Q I h =>
  wpAny_Dict_empty ⟨.ref s.heap.objs.size, _, I.laid (a := s.heap.objs.size) (o := .dT []) (t' := s.toks) (fun _ _ q => Heap.get?_push_of_some _ q) (Nat.le_refl _) (dt_empty s.heap I.big), rfl, h _ (I.hok.fresh (Nat.le_refl _))⟩
end

end L2

set_option Elab.async false
set_option linter.all false
set_option maxRecDepth 100000
namespace L2
open PySem PySem.Spec PyProof.Rows
theorem kf_ints_of : ∀ {xs : List Int} {us : List Value}, Vals (xs.map V.int) us → PySem.W.kf_ints us = true
  | [], _, .nil => rfl
  | x :: r, u :: us, .cons h t => by
    obtain ⟨k, rfl⟩ := h
    exact (kf_ints_of (xs := r) (us := us) t : PySem.W.kf_ints us = true)
theorem kf_at_idx {k : Int} : ∀ {xs : List Int} {us : List Value}, Vals (xs.map V.int) us → k ∈ xs → PySem.W.kf_at k us = some (xs.idxOf k)
  | x :: r, u :: us, .cons h t, hm => by
    obtain ⟨tk, rfl⟩ := h
    unfold PySem.W.kf_at
    show cond (x == k) (some 0) _ = _
    rw [List.idxOf_cons]
    cases e : x == k with
    | true => rfl
    | false =>
      have hm' : k ∈ r := by
        rcases List.mem_cons.mp hm with z | z
        · rw [z] at e; simp at e
        · exact z
      rw [kf_at_idx (xs := r) t hm']
      rfl
section
variable {X : Cx}
def rRemove : V → List V → Hp → VK → Prop := fun x vs H Q => ∃ l, ∃ xs : List Int, ∃ k : Int, x = .ref l ∧ vs = [.int k] ∧ H l = some (.lst (xs.map V.int)) ∧ k ∈ xs ∧ Q .non (upd H l (.lst ((xs.erase k).map V.int)))
def rIndexM (K : PySem.W.Frag) : V → List V → Hp → VK → Prop := fun x vs H Q => ∃ l, ∃ xs : List Int, ∃ k : Int, x = .ref l ∧ vs = [.int k] ∧ H l = some (.lst (xs.map V.int)) ∧ k ∈ xs ∧ Q (.int (xs.idxOf k : Nat)) H
theorem mt_index : MtR X "list.index" (rIndexM X.K) := by
  intro pins s σ H x vs v us Q I rx rv h
  obtain ⟨l, xs, k, rfl, rfl, hH, hk, q⟩ := h
  cases rx
  obtain ⟨u, rfl, ru⟩ := rv.one
  obtain ⟨t, rfl⟩ := ru
  obtain ⟨z, its, n, r, hl, e⟩ := I.lstM hH
  obtain ⟨a, b, c⟩ := PySem.W.kf_at_spec (kf_at_idx r hk)
  have hn := line63
  refine call_meets F.slot_list_index ⟨_, e, rfl⟩ F.entry_list_index (F.args_list_index_2 _ _)
    (MeetsSeq.list_index l its.toArray n (.int k t) (isInt k) (fun y hy => PySem.W.kf_eq (kf_ints_of r) y (by simpa using hy)) (xs.idxOf k) (by simpa using a) (by omega) (by simpa using b) (fun i hi hlt => (c i (by simpa using hi) hlt))) ⟨e, ?_⟩
  exact ⟨.int (xs.idxOf k : Nat), H, I.tok _, ⟨_, rfl⟩, q⟩
/-- list(range(a)) -/
def tLR (ta : TA) : TE := fun σ H Q => ta σ H fun vs H1 => ∃ j : Int, vs = [.int j] ∧ 0 ≤ j ∧ j ≤ 1000 ∧ ∀ l, H1 l = none → Q (.ref l) (upd H1 l (.lst ((List.range j.toNat).map fun i => V.int (i : Nat))))
end
end L2

set_option linter.all false
namespace Rl
/-! ## arcs as functions, and the machine that joins brackets -/
def tab (n : Nat) (f : Nat → Nat) : List Int := (List.range n).map fun i => (f i : Int)
theorem tab_length (n : Nat) (f : Nat → Nat) : (tab n f).length = n := by simp [tab]
theorem tab_get {n : Nat} {f : Nat → Nat} {i : Nat} (h : i < n) : (tab n f)[i]? = some (f i : Int) := by simp [tab, h]
theorem tab_getD {n : Nat} {f : Nat → Nat} {i : Nat} (h : i < n) : (tab n f).getD i 0 = (f i : Int) := by rw [List.getD_eq_getElem?_getD, tab_get h]; rfl
def put (f : Nat → Nat) (k v : Nat) : Nat → Nat := fun x => if x = k then v else f x
theorem tab_set {n : Nat} {f : Nat → Nat} {k v : Nat} (h : k < n) : (tab n f).set k (v : Int) = tab n (put f k v) := by
  apply List.ext_getElem?
  intro i
  by_cases hi : i < n
  · rw [tab_get hi, List.getElem?_set]
    unfold put
    by_cases e : i = k
    · subst e
      rw [if_pos rfl, if_pos rfl, if_pos (by rw [tab_length]; exact h)]
    · rw [if_neg (Ne.symm e), if_neg e, tab_get hi]
  · rw [List.getElem?_eq_none (by rw [List.length_set, tab_length]; omega), List.getElem?_eq_none (by rw [tab_length]; omega)]
theorem tab_zero (n : Nat) : List.replicate n (0 : Int) = tab n (fun _ => 0) := by
  apply List.ext_getElem?
  intro i
  by_cases hi : i < n
  · rw [tab_get hi]; simp [hi]
  · rw [List.getElem?_eq_none (by simp; omega), List.getElem?_eq_none (by rw [tab_length]; omega)]

structure IsArcs (n : Nat) (f : Nat → Nat) : Prop where
  lt : ∀ i, i < n → f i < n
  ne : ∀ i, i < n → f i ≠ i
  back : ∀ i, i < n → f (f i) = i
  cross : ∀ i j, i < n → j < n → ¬ (i < j ∧ j < f i ∧ f i < f j)

/-- the machine: b the brackets, S the open ones, f the partners so far -/
structure Run (b : Nat → Bool) (k : Nat) (f : Nat → Nat) (S : List Nat) : Prop where
  sorted : S.Pairwise (· < ·)
  lt : ∀ i, i ∈ S → i < k
  pair : ∀ i, i < k → i ∉ S → f i < k ∧ f i ∉ S ∧ f i ≠ i ∧ f (f i) = i
  inopen : ∀ i, i < k → i ∉ S → ∀ w, w ∈ S → ¬ (i < w ∧ w < f i)
  cross : ∀ i j, i < k → j < k → i ∉ S → j ∉ S → ¬ (i < j ∧ j < f i ∧ f i < f j)
  dir : ∀ i, i < k → i ∉ S → (b i = true ↔ i < f i)
  opn : ∀ i, i ∈ S → b i = true
theorem Run.start (b : Nat → Bool) (f : Nat → Nat) : Run b 0 f [] :=
  ⟨List.Pairwise.nil, fun _ h => (nomatch h), fun _ h => absurd h (Nat.not_lt_zero _), fun _ h => absurd h (Nat.not_lt_zero _), fun _ _ h => absurd h (Nat.not_lt_zero _), fun _ h => absurd h (Nat.not_lt_zero _), fun _ h => (nomatch h)⟩
theorem Run.push {b : Nat → Bool} {k : Nat} {f : Nat → Nat} {S : List Nat} (r : Run b k f S) (hb : b k = true) : Run b (k + 1) f (S ++ [k]) := by
  have old : ∀ i, i < k + 1 → i ∉ S ++ [k] → i < k ∧ i ∉ S := fun i hi hn => by
    rw [List.mem_append] at hn
    have h1 : i ∉ S := fun z => hn (.inl z)
    have h2 : i ≠ k := fun z => hn (.inr (by simp [z]))
    exact ⟨by omega, h1⟩
  refine ⟨?_, ?_, ?_, ?_, ?_, ?_, ?_⟩
  · rw [List.pairwise_append]
    refine ⟨r.sorted, List.pairwise_singleton _ _, fun x hx y hy => ?_⟩
    rw [List.mem_singleton] at hy
    rw [hy]; exact r.lt x hx
  · intro i hi
    rcases List.mem_append.mp hi with z | z
    · exact Nat.lt_succ_of_lt (r.lt i z)
    · rw [List.mem_singleton] at z; omega
  · intro i hi hn
    obtain ⟨h1, h2⟩ := old i hi hn
    obtain ⟨p1, p2, p3, p4⟩ := r.pair i h1 h2
    refine ⟨by omega, fun z => ?_, p3, p4⟩
    rcases List.mem_append.mp z with z | z
    · exact p2 z
    · rw [List.mem_singleton] at z; omega
  · intro i hi hn w hw
    obtain ⟨h1, h2⟩ := old i hi hn
    rcases List.mem_append.mp hw with z | z
    · exact r.inopen i h1 h2 w z
    · rw [List.mem_singleton] at z
      have := (r.pair i h1 h2).1
      omega
  · intro i j hi hj ni nj
    obtain ⟨h1, h2⟩ := old i hi ni
    obtain ⟨h3, h4⟩ := old j hj nj
    exact r.cross i j h1 h3 h2 h4
  · intro i hi hn
    obtain ⟨h1, h2⟩ := old i hi hn
    exact r.dir i h1 h2
  · intro i hi
    rcases List.mem_append.mp hi with z | z
    · exact r.opn i z
    · rw [List.mem_singleton] at z; rw [z]; exact hb
theorem Run.pop {b : Nat → Bool} {k t : Nat} {f : Nat → Nat} {S : List Nat} (r : Run b k f (S ++ [t])) (hb : b k = false) : Run b (k + 1) (put (put f k t) t k) S := by
  have tk : t < k := r.lt t (by simp)
  have srt := List.pairwise_append.mp r.sorted
  have tS : t ∉ S := fun z => absurd (srt.2.2 t z t (by simp)) (Nat.lt_irrefl _)
  have kS : k ∉ S := fun z => absurd (r.lt k (by simp [z])) (Nat.lt_irrefl _)
  have gk : put (put f k t) t k k = t := by unfold put; rw [if_neg (by omega), if_pos rfl]
  have gt : put (put f k t) t k t = k := by unfold put; rw [if_pos rfl]
  have go : ∀ i, i ≠ k → i ≠ t → put (put f k t) t k i = f i := fun i h1 h2 => by unfold put; rw [if_neg h2, if_neg h1]
  have old : ∀ i, i < k + 1 → i ∉ S → i ≠ k → i ≠ t → i < k ∧ i ∉ S ++ [t] := fun i hi hn h1 h2 => ⟨by omega, fun z => by
    rcases List.mem_append.mp z with z | z
    · exact hn z
    · rw [List.mem_singleton] at z; exact h2 z⟩
  have gl : ∀ i, i < k + 1 → i ∉ S → put (put f k t) t k i < k + 1 := fun i hi hn => by
    by_cases e1 : i = k
    · rw [e1, gk]; omega
    · by_cases e2 : i = t
      · rw [e2, gt]; omega
      · obtain ⟨h1, h2⟩ := old i hi hn e1 e2
        rw [go i e1 e2]
        have := (r.pair i h1 h2).1
        omega
  refine ⟨srt.1, fun i hi => Nat.lt_succ_of_lt (r.lt i (by simp [hi])), ?_, ?_, ?_, ?_, fun i hi => r.opn i (by simp [hi])⟩
  · intro i hi hn
    by_cases e1 : i = k
    · subst e1; rw [gk, gt]; exact ⟨by omega, tS, by omega, rfl⟩
    · by_cases e2 : i = t
      · subst e2; rw [gt, gk]; exact ⟨by omega, kS, by omega, rfl⟩
      · obtain ⟨h1, h2⟩ := old i hi hn e1 e2
        obtain ⟨p1, p2, p3, p4⟩ := r.pair i h1 h2
        have q1 : f i ≠ t := fun z => p2 (by simp [z])
        rw [go i e1 e2, go (f i) (by omega) q1]
        exact ⟨by omega, fun z => p2 (by simp [z]), p3, p4⟩
  · intro i hi hn w hw
    by_cases e1 : i = k
    · subst e1; rw [gk]; omega
    · by_cases e2 : i = t
      · subst e2
        have := srt.2.2 w hw i (by simp)
        omega
      · obtain ⟨h1, h2⟩ := old i hi hn e1 e2
        rw [go i e1 e2]
        exact r.inopen i h1 h2 w (by simp [hw])
  · intro i j hi hj ni nj
    have lj := gl j hj nj
    by_cases e1 : i = k
    · subst e1; omega
    · by_cases e2 : i = t
      · subst e2; rw [gt]; omega
      · obtain ⟨h1, h2⟩ := old i hi ni e1 e2
        have p1 := (r.pair i h1 h2).1
        rw [go i e1 e2]
        by_cases e3 : j = k
        · subst e3; omega
        · by_cases e4 : j = t
          · subst e4
            have := r.inopen i h1 h2 j (by simp)
            omega
          · obtain ⟨h3, h4⟩ := old j hj nj e3 e4
            rw [go j e3 e4]
            exact r.cross i j h1 h3 h2 h4
  · intro i hi hn
    by_cases e1 : i = k
    · subst e1; rw [gk, hb]; constructor
      · intro z; cases z
      · intro z; omega
    · by_cases e2 : i = t
      · subst e2; rw [gt]
        exact ⟨fun _ => tk, fun _ => r.opn i (by simp)⟩
      · obtain ⟨h1, h2⟩ := old i hi hn e1 e2
        rw [go i e1 e2]
        exact r.dir i h1 h2
theorem Run.done {b : Nat → Bool} {n : Nat} {f : Nat → Nat} (r : Run b n f []) : IsArcs n f ∧ ∀ i, i < n → (b i = true ↔ i < f i) :=
  ⟨⟨fun i h => (r.pair i h (by simp)).1, fun i h => (r.pair i h (by simp)).2.2.1, fun i h => (r.pair i h (by simp)).2.2.2, fun i j h1 h2 => r.cross i j h1 h2 (by simp) (by simp)⟩, fun i h => r.dir i h (by simp)⟩

/-! ## the open ones ahead of a place -/
def opens (f : Nat → Nat) (k : Nat) : List Nat := (List.range k).filter fun i => decide (k ≤ f i)
theorem mem_opens {f : Nat → Nat} {k i : Nat} : i ∈ opens f k ↔ i < k ∧ k ≤ f i := by simp [opens]
theorem opens_sorted (f : Nat → Nat) (k : Nat) : (opens f k).Pairwise (· < ·) := (List.pairwise_lt_range).filter _
theorem opens_push {f : Nat → Nat} {k : Nat} (pair : ∀ i, i < k → f i = k → f k = i) (h : k < f k) : opens f (k + 1) = opens f k ++ [k] := by
  unfold opens
  rw [List.range_succ, List.filter_append]
  congr 1
  · apply List.filter_congr
    intro i hi
    rw [List.mem_range] at hi
    have : f i ≠ k := fun e => by have := pair i hi e; omega
    rw [decide_eq_decide]
    omega
  · simp; omega
/-- the last of a sorted list is its greatest -/
theorem last_ge : ∀ {S : List Nat} {t : Nat}, S.Pairwise (· < ·) → S.getLast? = some t → ∀ w, w ∈ S → w ≤ t := by
  intro S t hs hl w hw
  obtain ⟨S', rfl⟩ := List.getLast?_eq_some_iff.mp hl
  rcases List.mem_append.mp hw with z | z
  · exact Nat.le_of_lt ((List.pairwise_append.mp hs).2.2 w z t (by simp))
  · rw [List.mem_singleton] at z; omega
theorem opens_pop {f : Nat → Nat} {k : Nat} (pair : ∀ i, i < k → (f i = k ↔ i = f k)) (h : f k < k) (hl : (opens f k).getLast? = some (f k)) : opens f (k + 1) = (opens f k).dropLast := by
  obtain ⟨S, hS⟩ := List.getLast?_eq_some_iff.mp hl
  have srt := opens_sorted f k
  rw [hS] at srt ⊢
  rw [List.dropLast_concat]
  have e1 : opens f (k + 1) = (opens f k).filter fun i => decide (i ≠ f k) := by
    unfold opens
    rw [List.range_succ, List.filter_append, List.filter_filter]
    have : List.filter (fun i => decide (k + 1 ≤ f i)) [k] = [] := by simp; omega
    rw [this, List.append_nil]
    apply List.filter_congr
    intro i hi
    rw [List.mem_range] at hi
    have := pair i hi
    rw [← Bool.decide_and, decide_eq_decide]
    constructor
    · intro z; exact ⟨fun y => by have := this.mpr y; omega, by omega⟩
    · intro ⟨z, y⟩
      have : f i ≠ k := fun q => z (this.mp q)
      omega
  rw [e1, hS, List.filter_append]
  have e2 : List.filter (fun i => decide (i ≠ f k)) [f k] = [] := by simp
  rw [e2, List.append_nil]
  apply List.filter_eq_self.mpr
  intro i hi
  have := (List.pairwise_append.mp srt).2.2 i hi (f k) (by simp)
  simp; omega
end Rl

set_option linter.all false
namespace Rl
/-! ## what the program's tests are worth -/
def isLenM (b : Int) : Bool := decide (b % 2 = 0) && (decide (2 ≤ b) && decide (b ≤ 40))
def leadsBackM (xs : List Int) (i : Int) : Bool :=
  decide (0 ≤ xs.getD i.toNat 0) && (decide (xs.getD i.toNat 0 < xs.length) && (decide (xs.getD i.toNat 0 ≠ i) && decide (xs.getD (xs.getD i.toNat 0).toNat 0 = i)))
def allBackM (xs : List Int) : Bool := (List.range xs.length).all fun i => leadsBackM xs i
def noCrossM (xs : List Int) : Bool := decide (∀ i, i < xs.length → ∀ j, j < xs.length → ¬ (i < j ∧ (j : Int) < xs.getD i 0 ∧ xs.getD i 0 < xs.getD j 0))
def isArcsM (xs : List Int) : Bool := isLenM xs.length && (allBackM xs && noCrossM xs)
/-- the bridges joined by pairs -/
structure Pairs (n : Nat) (f : Nat → Nat) : Prop where
  lt : ∀ i, i < n → f i < n
  ne : ∀ i, i < n → f i ≠ i
  back : ∀ i, i < n → f (f i) = i
theorem IsArcs.pairs {n : Nat} {f : Nat → Nat} (A : IsArcs n f) : Pairs n f := ⟨A.lt, A.ne, A.back⟩
theorem leads_tab {n : Nat} {f : Nat → Nat} {i : Nat} (h : i < n) (A : Pairs n f) : leadsBackM (tab n f) i = true := by
  unfold leadsBackM
  simp only [Int.toNat_natCast, tab_getD h, tab_getD (A.lt i h), tab_length, A.back i h]
  have h1 := A.lt i h
  have h2 := A.ne i h
  simp
  omega
theorem allBack_tab {n : Nat} {f : Nat → Nat} (A : Pairs n f) : allBackM (tab n f) = true := by
  unfold allBackM
  rw [List.all_eq_true]
  intro i hi
  rw [List.mem_range, tab_length] at hi
  exact leads_tab hi A
theorem allBack_of {xs : List Int} (h : allBackM xs = true) : ∃ f, xs = tab xs.length f ∧ Pairs xs.length f := by
  have hb : ∀ i, i < xs.length → 0 ≤ xs.getD i 0 ∧ xs.getD i 0 < xs.length ∧ xs.getD i 0 ≠ i ∧ xs.getD (xs.getD i 0).toNat 0 = i := fun i hi => by
    have := List.all_eq_true.mp h i (List.mem_range.mpr hi)
    unfold leadsBackM at this
    simpa using this
  refine ⟨fun i => (xs.getD i 0).toNat, ?_, ⟨fun i hi => ?_, fun i hi => ?_, fun i hi => ?_⟩⟩
  · apply List.ext_getElem?
    intro i
    by_cases hi : i < xs.length
    · rw [tab_get hi, List.getElem?_eq_getElem hi]
      have := (hb i hi).1
      rw [List.getD_eq_getElem?_getD, List.getElem?_eq_getElem hi] at this ⊢
      simp at this ⊢
      omega
    · rw [List.getElem?_eq_none (by omega), List.getElem?_eq_none (by rw [tab_length]; omega)]
  · have := hb i hi; omega
  · have := hb i hi; omega
  · have := hb i hi; omega
theorem noCross_tab {n : Nat} {f : Nat → Nat} : noCrossM (tab n f) = true ↔ ∀ i j, i < n → j < n → ¬ (i < j ∧ j < f i ∧ f i < f j) := by
  unfold noCrossM
  rw [decide_eq_true_eq, tab_length]
  constructor
  · intro h i j hi hj z
    apply h i hi j hj
    rw [tab_getD hi, tab_getD hj]
    omega
  · intro h i hi j hj z
    rw [tab_getD hi, tab_getD hj] at z
    exact h i j hi hj (by omega)
theorem isArcs_tab {n : Nat} {f : Nat → Nat} (A : IsArcs n f) (h2 : n % 2 = 0) (h0 : 2 ≤ n) (h1 : n ≤ 40) : isArcsM (tab n f) = true := by
  unfold isArcsM isLenM
  rw [allBack_tab A.pairs, noCross_tab.mpr A.cross, tab_length]
  simp
  omega
theorem isArcs_of {xs : List Int} (h : isArcsM xs = true) : ∃ f, xs = tab xs.length f ∧ IsArcs xs.length f ∧ xs.length % 2 = 0 ∧ 2 ≤ xs.length ∧ xs.length ≤ 40 := by
  unfold isArcsM at h
  rw [Bool.and_eq_true, Bool.and_eq_true] at h
  obtain ⟨h1, h2, h3⟩ := h
  obtain ⟨f, e, A⟩ := allBack_of h2
  unfold isLenM at h1
  simp at h1
  rw [e] at h3
  exact ⟨f, e, ⟨A.lt, A.ne, A.back, noCross_tab.mp h3⟩, by omega, by omega, by omega⟩
/-! ## a walk with the waiting ones finds out whether any two cross -/
theorem mem_last {f : Nat → Nat} {n k : Nat} (A : Pairs n f) (hk : k < n) (h : f k < k) : ∃ S t, opens f k = S ++ [t] := by
  have hm : f k ∈ opens f k := mem_opens.mpr ⟨h, by rw [A.back k hk]; exact Nat.le_refl _⟩
  cases e : (opens f k).getLast? with
  | none => rw [List.getLast?_eq_none_iff] at e; rw [e] at hm; cases hm
  | some t => exact ⟨_, t, (List.getLast?_eq_some_iff.mp e).choose_spec⟩
theorem cross_found {f : Nat → Nat} {n k t : Nat} {S : List Nat} (A : Pairs n f) (hk : k < n) (h : f k < k) (hS : opens f k = S ++ [t]) (ht : t ≠ f k) : ¬ ∀ i j, i < n → j < n → ¬ (i < j ∧ j < f i ∧ f i < f j) := by
  intro z
  have hl : (opens f k).getLast? = some t := by rw [hS]; simp
  have hm : f k ∈ opens f k := mem_opens.mpr ⟨h, by rw [A.back k hk]; exact Nat.le_refl _⟩
  have hge := last_ge (opens_sorted f k) hl (f k) hm
  obtain ⟨h1, h2⟩ := mem_opens.mp (List.mem_of_getLast? hl)
  have tn : t < n := by omega
  have : f t ≠ k := fun z => ht (by rw [← z, A.back t tn])
  have hc := z (f k) t (A.lt k hk) tn
  rw [A.back k hk] at hc
  omega
theorem no_cross_end {f : Nat → Nat} {n : Nat} (A : Pairs n f) (h : ∀ t, t < n → f t < t → (opens f t).getLast? = some (f t)) : ∀ i j, i < n → j < n → ¬ (i < j ∧ j < f i ∧ f i < f j) := by
  intro i j hi hj ⟨h1, h2, h3⟩
  have ht := A.lt i hi
  have hb := A.back i hi
  have hl := h (f i) ht (by omega)
  rw [hb] at hl
  have := last_ge (opens_sorted f (f i)) hl j (mem_opens.mpr ⟨h2, by omega⟩)
  omega
theorem Pairs.iffk {f : Nat → Nat} {n k : Nat} (A : Pairs n f) (hk : k < n) : ∀ i, i < k → (f i = k ↔ i = f k) := fun i hi =>
  ⟨fun e => by rw [← e, A.back i (by omega)], fun e => by rw [e, A.back k hk]⟩
/-! ## the draw -/
def cellAt (ns : List Int) (k : Int) : Int := ns.getD k.toNat 0
/-! ## words -/
def word (n : Nat) (f : Nat → Nat) : List Nat := (List.range n).map fun k => if k < f k then 40 else 41
end Rl
namespace Rl
theorem Run.re {b b' : Nat → Bool} {k : Nat} {f : Nat → Nat} {S : List Nat} (r : Run b k f S) (h : ∀ i, i < k → b i = b' i) : Run b' k f S :=
  ⟨r.sorted, r.lt, r.pair, r.inopen, r.cross, fun i hi hn => by rw [← h i hi]; exact r.dir i hi hn, fun i hi => by rw [← h i (r.lt i hi)]; exact r.opn i hi⟩
theorem Run.pushB {b : Nat → Bool} {k : Nat} {f : Nat → Nat} {S : List Nat} (r : Run b k f S) : Run (fun x => if x = k then true else b x) (k + 1) f (S ++ [k]) :=
  Run.push (r.re fun i hi => by rw [if_neg (by omega)]) (by simp)
theorem Run.popB {b : Nat → Bool} {k t : Nat} {f : Nat → Nat} {S : List Nat} (r : Run b k f (S ++ [t])) : Run (fun x => if x = k then false else b x) (k + 1) (put (put f k t) t k) S :=
  Run.pop (r.re fun i hi => by rw [if_neg (by omega)]) (by simp)
theorem ex_last {α : Type} {S : List α} (h : 0 < S.length) : ∃ S' t, S = S' ++ [t] := by
  have hn : S ≠ [] := fun z => by rw [z] at h; exact absurd h (Nat.lt_irrefl _)
  exact ⟨S.dropLast, S.getLast hn, (List.dropLast_concat_getLast hn).symm⟩
end Rl
namespace Rl
/-- the partners of the arcs that have ended ahead of a place -/
def part (g : Nat → Nat) (i : Nat) : Nat → Nat := fun j => if j < i ∧ g j < i then g j else 0
end Rl

set_option linter.all false
namespace Rl
/-! ## turned, mirrored, side by side, covered -/
/-- the place b on, round -/
def rot (n : Nat) (b : Int) (i : Nat) : Nat := (((i : Int) + b) % (n : Int)).toNat
/-- arcs turned by b -/
def turnF (n : Nat) (g : Nat → Nat) (b : Int) : Nat → Nat := fun i => rot n b (g (rot n (-b) i))
theorem IsArcs.congr {n : Nat} {f g : Nat → Nat} (A : IsArcs n f) (h : ∀ i, i < n → f i = g i) : IsArcs n g :=
  ⟨fun i hi => by rw [← h i hi]; exact A.lt i hi, fun i hi => by rw [← h i hi]; exact A.ne i hi, fun i hi => by rw [← h i hi, ← h _ (A.lt i hi)]; exact A.back i hi, fun i j hi hj => by rw [← h i hi, ← h j hj]; exact A.cross i j hi hj⟩
/-- mirrored -/
def mirF (n : Nat) (g : Nat → Nat) : Nat → Nat := fun i => n - 1 - g (n - 1 - i)
/-- side by side -/
def sideF (n : Nat) (g k : Nat → Nat) : Nat → Nat := fun i => if i < n then g i else n + k (i - n)
theorem side_arcs {n m : Nat} {g k : Nat → Nat} (A : IsArcs n g) (B : IsArcs m k) : IsArcs (n + m) (sideF n g k) := by
  unfold sideF
  refine ⟨fun i hi => ?_, fun i hi => ?_, fun i hi => ?_, fun i j hi hj => ?_⟩
  · split
    · rename_i q; have := A.lt i q; omega
    · rename_i q; have := B.lt (i - n) (by omega); omega
  · split
    · rename_i q; exact A.ne i q
    · rename_i q; have := B.ne (i - n) (by omega); omega
  · by_cases q : i < n
    · simp only [if_pos q, if_pos (A.lt i q)]
      exact A.back i q
    · have := B.lt (i - n) (by omega)
      have hb := B.back (i - n) (by omega)
      simp only [if_neg q, if_neg (show ¬ n + k (i - n) < n by omega)]
      rw [show n + k (i - n) - n = k (i - n) by omega, hb]
      omega
  · intro ⟨c1, c2, c3⟩
    by_cases q : i < n
    · rw [if_pos q] at c2 c3
      have := A.lt i q
      rw [if_pos (show j < n by omega)] at c3
      exact A.cross i j q (by omega) ⟨c1, c2, c3⟩
    · rw [if_neg q] at c2 c3
      rw [if_neg (show ¬ j < n by omega)] at c3
      exact B.cross (i - n) (j - n) (by omega) (by omega) ⟨by omega, by omega, by omega⟩
/-- covered -/
def covF (n : Nat) (g : Nat → Nat) : Nat → Nat := fun i => if i = 0 then n + 1 else if i = n + 1 then 0 else g (i - 1) + 1
end Rl

set_option linter.all false
namespace Rl
open Classical
/-! ## points that hang together, and how many heaps of them there are -/
inductive Conn {α : Type} (R : α → α → Prop) : α → α → Prop where
  | refl (a : α) : Conn R a a
  | step {a b c : α} : Conn R a b → (R b c ∨ R c b) → Conn R a c
section
variable {α β : Type} {R S : α → α → Prop}
theorem Conn.one {a b : α} (h : R a b) : Conn R a b := .step (.refl a) (.inl h)
theorem Conn.two {a b : α} (h : R b a) : Conn R a b := .step (.refl a) (.inr h)
theorem Conn.trans {a b c : α} (h : Conn R a b) (k : Conn R b c) : Conn R a c := by
  induction k with
  | refl => exact h
  | step _ r ih => exact .step ih r
theorem Conn.symm {a b : α} (h : Conn R a b) : Conn R b a := by
  induction h with
  | refl => exact .refl _
  | step _ r ih => exact Conn.trans (.step (.refl _) r.symm) ih
/-- every tie of the one is a way in the other -/
theorem Conn.lift {T : β → β → Prop} {f : α → β} (h : ∀ a b, R a b → Conn T (f a) (f b)) {a b : α} (k : Conn R a b) : Conn T (f a) (f b) := by
  induction k with
  | refl => exact .refl _
  | step _ r ih =>
    rcases r with r | r
    · exact ih.trans (h _ _ r)
    · exact ih.trans (h _ _ r).symm
/-- what is closed under the ties holds all that hang together -/
theorem Conn.inv {p : α → Prop} (h : ∀ a b, R a b → (p a ↔ p b)) {a b : α} (k : Conn R a b) : p a ↔ p b := by
  induction k with
  | refl => exact Iff.rfl
  | step _ r ih =>
    rcases r with r | r
    · exact ih.trans (h _ _ r)
    · exact ih.trans (h _ _ r).symm

/-- one of each heap -/
noncomputable def reps (E : α → α → Prop) : List α → List α
  | [] => []
  | a :: l => if ∃ b, b ∈ l ∧ E a b then reps E l else a :: reps E l
noncomputable def cls (E : α → α → Prop) (l : List α) : Nat := (reps E l).length
structure Eqv (E : α → α → Prop) : Prop where
  refl : ∀ a, E a a
  symm : ∀ a b, E a b → E b a
  trans : ∀ a b c, E a b → E b c → E a c
theorem Conn.eqv : Eqv (Conn R) := ⟨.refl, fun _ _ h => h.symm, fun _ _ _ h k => h.trans k⟩
variable {E : α → α → Prop}
theorem reps_sub : ∀ {l : List α} {a : α}, a ∈ reps E l → a ∈ l
  | [], _, h => nomatch h
  | b :: l, a, h => by
    unfold reps at h
    split at h
    · exact List.mem_cons_of_mem _ (reps_sub h)
    · rcases List.mem_cons.mp h with z | z
      · rw [z]; exact List.mem_cons_self
      · exact List.mem_cons_of_mem _ (reps_sub z)
theorem reps_apart : ∀ (l : List α), (reps E l).Pairwise fun a b => ¬ E a b
  | [] => .nil
  | b :: l => by
    unfold reps
    split
    · exact reps_apart l
    · rename_i h
      exact .cons (fun c hc e => h ⟨c, reps_sub hc, e⟩) (reps_apart l)
theorem reps_all (v : Eqv E) : ∀ {l : List α} {a : α}, a ∈ l → ∃ b, b ∈ reps E l ∧ E a b
  | b :: l, a, h => by
    unfold reps
    rcases List.mem_cons.mp h with z | z
    · subst z
      by_cases c : ∃ b, b ∈ l ∧ E a b
      · rw [if_pos c]
        obtain ⟨b, hb, e⟩ := c
        obtain ⟨d, hd, e'⟩ := reps_all v hb
        exact ⟨d, hd, v.trans _ _ _ e e'⟩
      · rw [if_neg c]
        exact ⟨a, List.mem_cons_self, v.refl a⟩
    · obtain ⟨d, hd, e⟩ := reps_all v z
      by_cases c : ∃ a, a ∈ l ∧ E b a
      · rw [if_pos c]; exact ⟨d, hd, e⟩
      · rw [if_neg c]; exact ⟨d, List.mem_cons_of_mem _ hd, e⟩
/-- a list whose members are told apart by what they meet there is no longer than that one -/
theorem length_le_rel {γ : Type} {C : α → γ → Prop} : ∀ {l : List α} {m : List γ}, l.Pairwise (fun a b => ∀ c, C a c → C b c → False) → (∀ a, a ∈ l → ∃ c, c ∈ m ∧ C a c) → l.length ≤ m.length
  | [], m, _, _ => Nat.zero_le _
  | a :: l, m, hp, hm => by
    have hp' := List.pairwise_cons.mp hp
    obtain ⟨c, hc, ca⟩ := hm a List.mem_cons_self
    obtain ⟨m1, m2, e⟩ := List.append_of_mem hc
    have ih := length_le_rel (l := l) (m := m1 ++ m2) hp'.2 (fun b hb => by
      obtain ⟨d, hd, cd⟩ := hm b (List.mem_cons_of_mem _ hb)
      rw [e] at hd
      rcases List.mem_append.mp hd with z | z
      · exact ⟨d, List.mem_append_left _ z, cd⟩
      · rcases List.mem_cons.mp z with z | z
        · rw [z] at cd; exact (hp'.1 b hb c ca cd).elim
        · exact ⟨d, List.mem_append_right _ z, cd⟩)
    rw [e, List.length_append, List.length_cons]
    rw [List.length_append] at ih
    rw [List.length_cons]
    omega
theorem cls_le {F : β → β → Prop} (v : Eqv F) {l : List α} {m : List β} {C : α → β → Prop} (h : ∀ a a' b b', a ∈ l → a' ∈ l → b ∈ m → b' ∈ m → C a b → C a' b' → F b b' → E a a') (hm : ∀ a, a ∈ l → ∃ b, b ∈ m ∧ C a b) : cls E l ≤ cls F m := by
  refine length_le_rel (C := fun a d => ∃ b, b ∈ m ∧ C a b ∧ F b d) ?_ fun a ha => ?_
  · refine (List.Pairwise.and_mem.mp (reps_apart (E := E) l)).imp ?_
    rintro a a' ⟨ha, ha', ne⟩ c ⟨b, hb, cb, e⟩ ⟨b', hb', cb', e'⟩
    exact ne (h a a' b b' (reps_sub ha) (reps_sub ha') hb hb' cb cb' (v.trans _ _ _ e (v.symm _ _ e')))
  · obtain ⟨b, hb, cb⟩ := hm a (reps_sub ha)
    obtain ⟨d, hd, e⟩ := reps_all v hb
    exact ⟨d, hd, b, hb, cb, e⟩
/-- told over by another name -/
theorem cls_eq {F : β → β → Prop} (u : Eqv E) (v : Eqv F) {l : List α} {m : List β} (f : α → β) (h : ∀ a b, a ∈ l → b ∈ l → (E a b ↔ F (f a) (f b))) (hf : ∀ a, a ∈ l → f a ∈ m) (hm : ∀ b, b ∈ m → ∃ a, a ∈ l ∧ F (f a) b) : cls E l = cls F m := by
  refine Nat.le_antisymm (cls_le v (C := fun a b => b = f a) ?_ fun a ha => ⟨f a, hf a ha, rfl⟩) (cls_le u (C := fun b a => F (f a) b) ?_ hm)
  · rintro a a' b b' ha ha' _ _ rfl rfl e
    exact (h a a' ha ha').mpr e
  · intro b b' a a' _ _ ha ha' c c' e
    exact v.trans _ _ _ (v.symm _ _ c) (v.trans _ _ _ ((h a a' ha ha').mp e) c')
theorem cls_cons (a : α) (l : List α) : cls E (a :: l) = if ∃ b, b ∈ l ∧ E a b then cls E l else cls E l + 1 := by
  unfold cls
  rw [show reps E (a :: l) = if ∃ b, b ∈ l ∧ E a b then reps E l else a :: reps E l from rfl]
  split <;> rfl
/-- as many as are told apart, each of the points hanging with one of them -/
theorem cls_reps (u : Eqv E) {l r : List α} (hr : r.Pairwise fun a b => ¬ E a b) (hs : ∀ a, a ∈ r → a ∈ l) (h : ∀ a, a ∈ l → ∃ b, b ∈ r ∧ E a b) : cls E l = r.length := by
  have e : cls E r = cls E l := cls_eq u u (f := fun x => x) (fun _ _ _ _ => Iff.rfl) hs fun b hb => by
    obtain ⟨c, hc, q⟩ := h b hb
    exact ⟨c, hc, u.symm _ _ q⟩
  rw [← e]
  clear e hs h
  induction r with
  | nil => rfl
  | cons a r ih =>
    have hp := List.pairwise_cons.mp hr
    rw [cls_cons, if_neg (by rintro ⟨b, hb, q⟩; exact hp.1 b hb q), ih hp.2, List.length_cons]
end
end Rl

set_option linter.all false
namespace Rl
open Classical
/-! ## a part that is put for a greater one -/
section
variable {α β : Type} {B : α → α → Prop} {S : β → β → Prop}
/-- g puts the small one's points into the great one, r takes the great one's points back, but those that hang with none (the rings) -/
structure Retract (B : α → α → Prop) (S : β → β → Prop) (g : β → α) (ring : α → Prop) (r : α → β) : Prop where
  up : ∀ u v, S u v → Conn B (g u) (g v)
  rg : ∀ p q, B p q → (ring p ↔ ring q)
  down : ∀ p q, B p q → ¬ ring p → Conn S (r p) (r q)
  back : ∀ u, Conn S (r (g u)) u
end

/-! ## roads -/
/-- the ties of the arcs above and below -/
def Ties (n : Nat) (a b : Nat → Nat) : Nat → Nat → Prop := fun i j => i < n ∧ (j = a i ∨ j = b i)
/-- how many roads -/
noncomputable def many (n : Nat) (a b : Nat → Nat) : Nat := cls (Conn (Ties n a b)) (List.range n)
/-- bridges told over: f keeps apart, and keeps the arcs -/
structure Names (n m : Nat) (a b a' b' : Nat → Nat) (f : Nat → Nat) : Prop where
  lt : ∀ i, i < n → f i < m
  inj : ∀ i j, i < n → j < n → f i = f j → i = j
  above : ∀ i, i < n → a' (f i) = f (a i)
  below : ∀ i, i < n → b' (f i) = f (b i)
end Rl

set_option linter.all false
namespace Rl
open Classical
/-! ## rows laid beneath one another -/
/-- the ties of x above y: x's bridges are 0 .. 2n - 1, y's stand 2n on -/
def GT (n : Nat) (x y : Nat → Nat) (p q : Nat) : Prop := (p < 2 * n ∧ q = x p) ∨ (∃ w, w < 2 * n ∧ p = 2 * n + w ∧ q = 2 * n + y w) ∨ (∃ k, k < n ∧ p = 2 * n - 1 - k ∧ q = 2 * n + k)
/-- the outer ends -/
def out (n k : Nat) : Nat := if k < n then k else k + 2 * n
theorem out_inj {n u v : Nat} (h : out n u = out n v) : u = v := by
  unfold out at h
  split at h <;> split at h <;> omega
structure Comp (n : Nat) (x y c : Nat → Nat) : Prop where
  pr : Pairs (2 * n) c
  con : ∀ k, k < 2 * n → Conn (GT n x y) (out n k) (out n (c k))
  uni : ∀ k j, k < 2 * n → j < 2 * n → Conn (GT n x y) (out n k) (out n j) → j = k ∨ j = c k
/-- hangs with no outer end -/
def Ring (n : Nat) (x y : Nat → Nat) (p : Nat) : Prop := p < 4 * n ∧ ∀ k, k < 2 * n → ¬ Conn (GT n x y) p (out n k)
noncomputable def rgs (n : Nat) (x y : Nat → Nat) : Nat := cls (Conn (GT n x y)) ((List.range (4 * n)).filter fun p => decide (Ring n x y p))
theorem GT.lt {n : Nat} {x y : Nat → Nat} (X : Pairs (2 * n) x) (Y : Pairs (2 * n) y) {p q : Nat} (h : GT n x y p q) : p < 4 * n ∧ q < 4 * n := by
  rcases h with ⟨h, e⟩ | ⟨w, hw, e1, e2⟩ | ⟨k, hk, e1, e2⟩
  · have := X.lt p h; omega
  · have := Y.lt w hw; omega
  · omega
section
variable {n : Nat} {x y c : Nat → Nat} {Ctx : Nat → Nat → Prop}
def Big (n : Nat) (x y : Nat → Nat) (Ctx : Nat → Nat → Prop) (p q : Nat) : Prop := GT n x y p q ∨ Ctx p q
def Small (n : Nat) (c : Nat → Nat) (Ctx : Nat → Nat → Prop) (u v : Nat) : Prop := (u < 2 * n ∧ v = c u) ∨ Ctx (out n u) (out n v)
noncomputable def pick (n : Nat) (x y : Nat → Nat) (p : Nat) : Nat := if 4 * n ≤ p then p - 2 * n else if h : ∃ k, k < 2 * n ∧ Conn (GT n x y) p (out n k) then h.choose else 0
end
end Rl

set_option linter.all false
namespace Rl
open Classical
/-! ## told over -/
section
variable {α β : Type} {B : α → α → Prop} {S : β → β → Prop}
end
/-! ## three rows -/
/-- z beneath: its bridges stand 4n on -/
def CtxL (n : Nat) (z : Nat → Nat) (p q : Nat) : Prop := (∃ w, w < 2 * n ∧ p = 4 * n + w ∧ q = 4 * n + z w) ∨ (∃ k, k < n ∧ p = 4 * n - 1 - k ∧ q = 4 * n + k)
/-- x above: its bridges stand 4n on too -/
def CtxR (n : Nat) (x : Nat → Nat) (p q : Nat) : Prop := (∃ w, w < 2 * n ∧ p = 4 * n + w ∧ q = 4 * n + x w) ∨ (∃ k, k < n ∧ p = 4 * n + (2 * n - 1 - k) ∧ q = k)
/-- the halves changed about -/
def swp (n u : Nat) : Nat := if u < 2 * n then u + 2 * n else if u < 4 * n then u - 2 * n else u
/-- from x, y, z to y, z, x -/
def rol (n p : Nat) : Nat := if p < 2 * n then p + 4 * n else if p < 6 * n then p - 2 * n else p
def ror (n p : Nat) : Nat := if p < 4 * n then p + 2 * n else if p < 6 * n then p - 4 * n else p
section
variable {n : Nat} {x y z c12 c23 d e : Nat → Nat}
end
end Rl

set_option linter.all false
namespace Rl
open Classical
/-! ## closed round, and the straight ones -/
def st (n : Nat) : Nat → Nat := fun k => 2 * n - 1 - k
noncomputable def closedN (n : Nat) (c : Nat → Nat) : Nat := many (2 * n) c (st n)
def CtxC (n : Nat) (p q : Nat) : Prop := ∃ k, k < n ∧ p = k ∧ q = 4 * n - 1 - k
section
variable {n : Nat} {x y c : Nat → Nat}
end
/-! ## how many rings at least, at most -/
end Rl

set_option linter.all false
namespace Rl
open Classical
/-! ## walking from a point: a, then b, and so on -/
structure Invo (n : Nat) (b : Nat → Nat) : Prop where
  lt : ∀ i, i < n → b i < n
  back : ∀ i, i < n → b (b i) = i
def itr (a b : Nat → Nat) (f : Nat) : Nat → Nat
  | 0 => f
  | i + 1 => b (a (itr a b f i))
def wayL (a b : Nat → Nat) (f : Nat) : Nat → List Nat
  | 0 => []
  | k + 1 => wayL a b f k ++ [itr a b f k, a (itr a b f k)]
section
variable {n : Nat} {a b : Nat → Nat}
theorem itr_add (f i j : Nat) : itr a b f (i + j) = itr a b (itr a b f i) j := by
  induction j with
  | zero => rfl
  | succ j ih => show b (a (itr a b f (i + j))) = _; rw [ih]; rfl
theorem itr_lt (A : Pairs n a) (B : Invo n b) {f : Nat} (hf : f < n) (i : Nat) : itr a b f i < n := by
  induction i with
  | zero => exact hf
  | succ i ih => exact B.lt _ (A.lt _ ih)
theorem mem_wayL {f k x : Nat} : x ∈ wayL a b f k ↔ ∃ i, i < k ∧ (x = itr a b f i ∨ x = a (itr a b f i)) := by
  induction k with
  | zero => simp [wayL]
  | succ k ih =>
    rw [wayL, List.mem_append, ih]
    constructor
    · rintro (⟨i, hi, h⟩ | h)
      · exact ⟨i, by omega, h⟩
      · refine ⟨k, by omega, ?_⟩
        simpa using h
    · rintro ⟨i, hi, h⟩
      by_cases c : i = k
      · right; subst c; simpa using h
      · left; exact ⟨i, by omega, h⟩
theorem wayL_length (f k : Nat) : (wayL a b f k).length = 2 * k := by
  induction k with
  | zero => rfl
  | succ k ih => rw [wayL, List.length_append, ih]; simp; omega
theorem step_inj (A : Pairs n a) (B : Invo n b) {x y : Nat} (hx : x < n) (hy : y < n) (h : b (a x) = b (a y)) : x = y := by
  have h2 := congrArg b h
  rw [B.back _ (A.lt _ hx), B.back _ (A.lt _ hy)] at h2
  have h3 := congrArg a h2
  rwa [A.back _ hx, A.back _ hy] at h3
theorem itr_cancel (A : Pairs n a) (B : Invo n b) {f : Nat} (hf : f < n) : ∀ {i j : Nat}, itr a b f i = itr a b f (i + j) → f = itr a b f j
  | 0, j, h => by rw [Nat.zero_add] at h; exact h
  | i + 1, j, h => by
    rw [show i + 1 + j = (i + j) + 1 by omega] at h
    exact itr_cancel A B hf (i := i) (step_inj A B (itr_lt A B hf i) (itr_lt A B hf (i + j)) h)
/-- it comes back -/
theorem itr_back (A : Pairs n a) (B : Invo n b) {f : Nat} (hf : f < n) : ∃ p, p < n ∧ itr a b f (p + 1) = f := by
  apply byContradiction
  intro no
  have key : ∀ i j, i < j → j ≤ n → itr a b f i ≠ itr a b f j := fun i j hij hj e => by
    rw [show j = i + (j - i) by omega] at e
    have q := itr_cancel A B hf e
    exact no ⟨j - i - 1, by omega, by rw [show j - i - 1 + 1 = j - i by omega]; exact q.symm⟩
  have := length_le_rel (l := List.range (n + 1)) (m := List.range n) (C := fun i c => c = itr a b f i) (by
    refine (List.Pairwise.and_mem.mp List.pairwise_lt_range).imp ?_
    rintro i j ⟨hi, hj, hij⟩ c h1 h2
    rw [List.mem_range] at hj
    exact key i j hij (by omega) (h1.symm.trans h2)) (fun i _ => ⟨_, List.mem_range.mpr (itr_lt A B hf i), rfl⟩)
  simp at this
  omega
theorem least {P : Nat → Prop} : ∀ {k : Nat}, P k → ∃ m, m ≤ k ∧ P m ∧ ∀ i, i < m → ¬ P i := by
  intro k
  induction k using Nat.strongRecOn with
  | ind k ih =>
    intro h
    by_cases c : ∃ j, j < k ∧ P j
    · obtain ⟨j, hj, hp⟩ := c
      obtain ⟨m, h1, h2⟩ := ih j hj hp
      exact ⟨m, by omega, h2⟩
    · exact ⟨k, Nat.le_refl _, h, fun i hi hp => c ⟨i, hi, hp⟩⟩
/-- the walk from f ends behind m steps: at a fixed point of b, or at f again -/
structure Stops (a b : Nat → Nat) (f m : Nat) : Prop where
  stop : b (a (itr a b f m)) = a (itr a b f m) ∨ b (a (itr a b f m)) = f
  go : ∀ i, i < m → b (a (itr a b f i)) ≠ a (itr a b f i) ∧ b (a (itr a b f i)) ≠ f
theorem stops (A : Pairs n a) (B : Invo n b) {f : Nat} (hf : f < n) : ∃ m, m < n ∧ Stops a b f m := by
  obtain ⟨p, hp, e⟩ := itr_back A B hf
  obtain ⟨m, h1, h2, h3⟩ := least (P := fun m => b (a (itr a b f m)) = a (itr a b f m) ∨ b (a (itr a b f m)) = f) (k := p) (.inr e)
  exact ⟨m, by omega, h2, fun i hi => ⟨fun z => h3 i hi (.inl z), fun z => h3 i hi (.inr z)⟩⟩
theorem Stops.uniq {f m m' : Nat} (h : Stops a b f m) (h' : Stops a b f m') : m = m' := by
  rcases Nat.lt_trichotomy m m' with z | z | z
  · rcases h.stop with q | q
    · exact absurd q (h'.go m z).1
    · exact absurd q (h'.go m z).2
  · exact z
  · rcases h'.stop with q | q
    · exact absurd q (h.go m' z).1
    · exact absurd q (h.go m' z).2
noncomputable def stopAt (a b : Nat → Nat) (f : Nat) : Nat := if h : ∃ m, Stops a b f m then h.choose else 0
noncomputable def way (a b : Nat → Nat) (f : Nat) : List Nat := wayL a b f (stopAt a b f + 1)
theorem stopAt_spec (A : Pairs n a) (B : Invo n b) {f : Nat} (hf : f < n) : Stops a b f (stopAt a b f) := by
  obtain ⟨m, _, h⟩ := stops A B hf
  have e : ∃ m, Stops a b f m := ⟨m, h⟩
  unfold stopAt
  rw [dif_pos e]
  exact e.choose_spec
theorem stopAt_lt (A : Pairs n a) (B : Invo n b) {f : Nat} (hf : f < n) : stopAt a b f < n := by
  obtain ⟨m, hm, h⟩ := stops A B hf
  rw [(stopAt_spec A B hf).uniq h]
  exact hm
/-- no point of the walk leads by a to a point of the walk's even places -/
theorem noself (A : Pairs n a) (B : Invo n b) : ∀ (k : Nat) (f : Nat), f < n → (∀ i, i < k → b (a (itr a b f i)) ≠ a (itr a b f i)) → a f ≠ itr a b f k
  | 0, f, hf, _ => A.ne f hf
  | 1, f, hf, h => fun e => h 0 (by omega) e.symm
  | k + 2, f, hf, h => fun e => by
    have hg : b (a f) < n := B.lt _ (A.lt _ hf)
    have sh : ∀ i, itr a b f (i + 1) = itr a b (b (a f)) i := fun i => by rw [show i + 1 = 1 + i by omega, itr_add]; rfl
    refine noself A B k (b (a f)) hg (fun i hi => ?_) ?_
    · rw [← sh]; exact h (i + 1) (by omega)
    · have e1 : itr a b f (k + 2) = b (a (itr a b f (k + 1))) := rfl
      rw [e1] at e
      have e2 := congrArg b e
      rw [B.back _ (A.lt _ (itr_lt A B hf _))] at e2
      rw [← sh, e2]
      exact A.back _ (itr_lt A B hf _)
/-- the walk's points are the heap of f -/
theorem mem_way (A : Pairs n a) (B : Invo n b) {f : Nat} (hf : f < n) (h : b f = f ∨ ∀ i, b (a (itr a b f i)) ≠ a (itr a b f i)) {x : Nat} : x ∈ way a b f ↔ Conn (Ties n a b) f x := by
  have S := stopAt_spec A B hf
  unfold way
  constructor
  · intro hx
    obtain ⟨i, _, e⟩ := mem_wayL.mp hx
    have c : ∀ i, Conn (Ties n a b) f (itr a b f i) := fun i => by
      induction i with
      | zero => exact .refl _
      | succ i ih => exact (ih.trans (.one ⟨itr_lt A B hf i, .inl rfl⟩)).trans (.one ⟨A.lt _ (itr_lt A B hf i), .inr rfl⟩)
    rcases e with e | e
    · rw [e]; exact c i
    · rw [e]; exact (c i).trans (.one ⟨itr_lt A B hf i, .inl rfl⟩)
  · intro c
    have cl : ∀ y, y ∈ wayL a b f (stopAt a b f + 1) → a y ∈ wayL a b f (stopAt a b f + 1) ∧ b y ∈ wayL a b f (stopAt a b f + 1) := fun y hy => by
      obtain ⟨i, hi, e⟩ := mem_wayL.mp hy
      have hl := itr_lt A B hf i
      rcases e with e | e
      · subst e
        refine ⟨mem_wayL.mpr ⟨i, hi, .inr rfl⟩, ?_⟩
        cases i with
        | zero =>
          rcases h with h | h
          · refine mem_wayL.mpr ⟨0, by omega, .inl ?_⟩
            exact h
          · rcases S.stop with q | q
            · exact absurd q (h _)
            · refine mem_wayL.mpr ⟨stopAt a b f, by omega, .inr ?_⟩
              show b f = _
              rw [← q, B.back _ (A.lt _ (itr_lt A B hf _))]
              rw [q]
        | succ i =>
          refine mem_wayL.mpr ⟨i, by omega, .inr ?_⟩
          show b (b (a (itr a b f i))) = _
          rw [B.back _ (A.lt _ (itr_lt A B hf i))]
      · subst e
        refine ⟨mem_wayL.mpr ⟨i, hi, .inl (A.back _ hl)⟩, ?_⟩
        by_cases c : i = stopAt a b f
        · subst c
          rcases S.stop with q | q
          · exact mem_wayL.mpr ⟨_, hi, .inr q⟩
          · exact mem_wayL.mpr ⟨0, by omega, .inl q⟩
        · exact mem_wayL.mpr ⟨i + 1, by omega, .inl rfl⟩
    have all : ∀ {x y : Nat}, Conn (Ties n a b) x y → x ∈ wayL a b f (stopAt a b f + 1) → y ∈ wayL a b f (stopAt a b f + 1) := by
      intro x y c hx
      induction c with
      | refl => exact hx
      | @step u v _ t ih =>
        rcases t with ⟨_, t | t⟩ | ⟨hv, t | t⟩
        · rw [t]; exact (cl u ih).1
        · rw [t]; exact (cl u ih).2
        · have := (cl u ih).1; rw [t, A.back v hv] at this; exact this
        · have := (cl u ih).2; rw [t, B.back v hv] at this; exact this
    exact all c (mem_wayL.mpr ⟨0, by omega, .inl rfl⟩)
end
/-! ## going through all points, a walk from each that was not met -/
noncomputable def scan (w : Nat → List Nat) (k0 : List Nat) : Nat → List Nat
  | 0 => []
  | i + 1 => if i ∈ k0 ++ ((scan w k0 i).map w).flatten then scan w k0 i else scan w k0 i ++ [i]
section
variable {w : Nat → List Nat} {k0 : List Nat}
theorem scan_lt {i x : Nat} (h : x ∈ scan w k0 i) : x < i := by
  induction i with
  | zero => simp [scan] at h
  | succ i ih =>
    unfold scan at h
    split at h
    · have := ih h; omega
    · rcases List.mem_append.mp h with z | z
      · have := ih z; omega
      · simp at z; omega
theorem scan_mono {i : Nat} {x : Nat} (h : x ∈ scan w k0 i) : x ∈ scan w k0 (i + 1) := by
  unfold scan
  split
  · exact h
  · exact List.mem_append_left _ h
/-- each one that was looked at is met -/
theorem scan_met (hw : ∀ i, i ∈ w i) : ∀ {i j : Nat}, j < i → j ∈ k0 ++ ((scan w k0 i).map w).flatten
  | i + 1, j, h => by
    by_cases c : j = i
    · subst c
      unfold scan
      split
      · assumption
      · refine List.mem_append_right _ (List.mem_flatten.mpr ⟨w j, List.mem_map.mpr ⟨j, by simp, rfl⟩, hw j⟩)
    · have := scan_met hw (i := i) (j := j) (by omega)
      rcases List.mem_append.mp this with z | z
      · exact List.mem_append_left _ z
      · refine List.mem_append_right _ ?_
        obtain ⟨l, hl, hj⟩ := List.mem_flatten.mp z
        obtain ⟨r, hr, rfl⟩ := List.mem_map.mp hl
        exact List.mem_flatten.mpr ⟨w r, List.mem_map.mpr ⟨r, scan_mono hr, rfl⟩, hj⟩
theorem scan_apart : ∀ (i : Nat), (scan w k0 i).Pairwise fun r r' => r' ∉ w r
  | 0 => by simp [scan]
  | i + 1 => by
    unfold scan
    split
    · exact scan_apart i
    · rename_i h
      refine List.pairwise_append.mpr ⟨scan_apart i, by simp, fun r hr r' hr' => ?_⟩
      simp at hr'
      subst hr'
      exact fun z => h (List.mem_append_right _ (List.mem_flatten.mpr ⟨w r, List.mem_map.mpr ⟨r, hr, rfl⟩, z⟩))
theorem scan_new {i r : Nat} (h : r ∈ scan w k0 i) : r ∉ k0 := by
  induction i with
  | zero => simp [scan] at h
  | succ i ih =>
    unfold scan at h
    split at h
    · exact ih h
    · rename_i c
      rcases List.mem_append.mp h with z | z
      · exact ih z
      · simp at z; subst z
        exact fun z => c (List.mem_append_left _ z)
end
theorem way_self {a b : Nat → Nat} (f : Nat) : f ∈ way a b f := mem_wayL.mpr ⟨0, by omega, .inl rfl⟩
end Rl

set_option linter.all false
namespace Rl
open Classical
/-! ## the bridges that are left -/
def leftL (n : Nat) (met : List Nat) : List Nat := (List.range n).filter fun x => !met.contains x
section
variable {n : Nat} {a b : Nat → Nat}
/-- the points met by walks -/
noncomputable def metL (a b : Nat → Nat) (i : Nat) : List Nat := ((scan (way a b) [] i).map (way a b)).flatten
end
end Rl

set_option Elab.async false
set_option linter.all false
set_option maxRecDepth 100000
namespace Rl
open PySem L2
/-! ## lists of bridges as values -/
def ni (l : List Nat) : List Int := l.map fun j : Nat => (j : Int)
theorem ni_length (l : List Nat) : (ni l).length = l.length := List.length_map _
theorem ni_len (l : List Nat) : ((ni l).map V.int).length = l.length := by rw [List.length_map, ni_length]
theorem ni_append (l m : List Nat) : ni (l ++ m) = ni l ++ ni m := List.map_append
theorem nv_append (l m : List Nat) : (ni (l ++ m)).map V.int = (ni l).map V.int ++ (ni m).map V.int := by rw [ni_append, List.map_append]
theorem ni_get {l : List Nat} {i x : Nat} (h : l[i]? = some x) : (ni l)[i]? = some (x : Int) := by unfold ni; rw [List.getElem?_map, h]; rfl
theorem mem_ni {l : List Nat} {x : Nat} : (x : Int) ∈ ni l ↔ x ∈ l := by
  unfold ni
  rw [List.mem_map]
  constructor
  · rintro ⟨y, hy, e⟩
    have : y = x := by omega
    exact this ▸ hy
  · intro h; exact ⟨x, h, rfl⟩
theorem ni_tab (n : Nat) (f : Nat → Nat) : tab n f = ni ((List.range n).map f) := by unfold tab ni; rw [List.map_map]; rfl
theorem flat_ints (l : List Int) : (l.map V.int).all flatV = true := by
  rw [List.all_eq_true]
  intro x hx
  obtain ⟨i, _, rfl⟩ := List.mem_map.mp hx
  rfl
theorem inV_ints (l : List Int) (x : Int) : inV (.int x) (l.map V.int) = decide (x ∈ l) := by
  unfold inV
  induction l with
  | nil => rfl
  | cons y r ih =>
    rw [List.map_cons, List.any_cons, ih]
    show (y == x || _) = _
    by_cases c : y = x
    · subst c; simp
    · simp [c, Ne.symm c]
theorem inV_ni (l : List Nat) (x : Nat) : inV (.int (x : Int)) ((ni l).map V.int) = decide (x ∈ l) := by
  rw [inV_ints]
  exact decide_eq_decide.mpr mem_ni
theorem ne_yes {x y : Int} (h : (!decide (V.int x = V.int y)) = true) : x ≠ y := fun z => by rw [z] at h; simp at h
theorem ne_no {x y : Int} (h : ¬ (!decide (V.int x = V.int y)) = true) : x = y := by
  by_cases z : x = y
  · exact z
  · exfalso; apply h; simp [z]
theorem eq_yes {x y : Int} (h : decide (V.int x = V.int y) = true) : x = y := V.int.inj (of_decide_eq_true h)
theorem eq_no {x y : Int} (h : ¬ decide (V.int x = V.int y) = true) : x ≠ y := fun z => h (decide_eq_true (congrArg V.int z))
/-- rows of bridges that were made: r holds them -/
structure RowsAt (H H' : Hp) (as : List Addr) (ws : List (List Nat)) : Prop where
  len : as.length = ws.length
  row : ∀ (i : Nat) (x : Addr) (w : List Nat), as[i]? = some x → ws[i]? = some w → H' x = some (.lst ((ni w).map V.int))
  new : ∀ x, x ∈ as → H x = none
  nd : as.Nodup
theorem eqD_same {K : PySem.W.Frag} {H : Hp} {n : Nat} {a b : Addr} {xs : List Int} (ha : SqL K H a (xs.map V.int)) (hb : SqL K H b (xs.map V.int)) (ne : a ≠ b) : EqD K H (n + 1) (.ref a) (.ref b) true := by
  have q := EqD.ints (n := n) ha hb ne
  rwa [decide_eq_true rfl] at q
/-- two lists of rows, alike row by row -/
theorem eqT_rows {K : PySem.W.Frag} {H : Hp} {r d : Addr} {as ds : List Addr} (hr : SqL K H r (as.map V.ref)) (hd : SqL K H d (ds.map V.ref)) (hl : as.length = ds.length)
    (h : ∀ (j : Nat) (x y : Addr), as[j]? = some x → ds[j]? = some y → x ≠ y ∧ ∃ v : List Int, SqL K H x (v.map V.int) ∧ SqL K H y (v.map V.int)) : EqT K H 8 (.ref r) (.ref d) true := by
  have q := EqT.lists (n := 8) (e := fun _ => true) hr hd (by simp [hl]) (fun j x y ex ey => by
    rw [List.getElem?_map] at ex ey
    obtain ⟨u, hu, rfl⟩ := Option.map_eq_some_iff.mp ex
    obtain ⟨u', hu', rfl⟩ := Option.map_eq_some_iff.mp ey
    obtain ⟨ne, v, h1, h2⟩ := h j u u' hu hu'
    exact eqD_same h1 h2 ne)
  have e : (List.range (as.map V.ref).length).all (fun _ => true) = true := by simp
  rwa [e] at q
/-! ## a list comprehension with a test, the heap growing only -/
theorem comp_if {J : It} {g : TG} {tf : TT} {te : TE} {p : Addr} {H : Hp} {σ0 : St} {Fin : Hp → Prop} (n : Nat) (P : Nat → Bool) (items : Nat → V) (Sg : St → Prop) (hn : n ≤ sizeLine) (h0 : Sg σ0) (hp : H p = none)
    (hJ : ∀ i H', i < n → Same H H' → J.go i H') (hE : ∀ H', Same H H' → J.stop n H')
    (ht : ∀ i x σ' H' H2 (kT : St → V → Hp → Prop) (kF : St → Hp → Prop), i < n → Sg σ' → Same H H' → J.yld i H' x H2 → (P i = true → ∀ σ3 y H4, Sg σ3 → y = items i → Same H' H4 → kT σ3 y H4) → (P i = false → ∀ σ3 H4, Sg σ3 → Same H' H4 → kF σ3 H4) →
      g x σ' H2 fun σ2 H2 => tf σ2 H2 fun b H3 => if b = true then te σ2 H3 fun y H4 => kT σ2 y H4 else kF σ2 H3)
    (fin : ∀ H', Same H H' → H' p = some (.lst (((List.range n).filter P).map items)) → Fin H') :
    ∃ W : Nat → Nat → List V → St → Hp → Prop, (∃ m, W 0 m [] σ0 (upd H p (.lst []))) ∧ CompW J g tf te p W Fin := by
  refine ⟨fun i m ys σ' H' => m = n - i ∧ i ≤ n ∧ ys = ((List.range i).filter P).map items ∧ Sg σ' ∧ Same H H' ∧ H' p = some (.lst ys), ⟨n, by simp, Nat.zero_le _, by simp, h0, same_upd_new hp _, upd_same⟩, ?_⟩
  rintro i m ys σ' H' ⟨rfl, hi, rfl, hS, hH, hacc⟩
  refine ⟨hacc, ?_⟩
  by_cases hlt : i < n
  · refine .inr ⟨hJ i H' hlt hH, fun x H2 y => ?_⟩
    refine ht i x σ' H' H2 (fun σ2 y H4 => H4 p = some (.lst (((List.range i).filter P).map items)) ∧ (((List.range i).filter P).map items).length < sizeLine ∧ ∃ m', m' < n - i ∧ m' = n - (i + 1) ∧ i + 1 ≤ n ∧ ((List.range i).filter P).map items ++ [y] = ((List.range (i + 1)).filter P).map items ∧ Sg σ2 ∧ Same H (upd H4 p (.lst (((List.range i).filter P).map items ++ [y]))) ∧ upd H4 p (.lst (((List.range i).filter P).map items ++ [y])) p = some (.lst (((List.range i).filter P).map items ++ [y])))
      (fun σ2 H4 => ∃ m', m' < n - i ∧ m' = n - (i + 1) ∧ i + 1 ≤ n ∧ ((List.range i).filter P).map items = ((List.range (i + 1)).filter P).map items ∧ Sg σ2 ∧ Same H H4 ∧ H4 p = some (.lst (((List.range i).filter P).map items))) hlt hS hH y (fun hP σ3 y H4 s3 ey sm => ?_) (fun hP σ3 H4 s3 sm => ?_)
    · subst ey
      refine ⟨sm _ _ hacc, ?_, n - (i + 1), by omega, rfl, hlt, ?_, s3, (hH.trans sm).upd hp _, upd_same⟩
      · rw [List.length_map]
        have := List.length_filter_le P (List.range i)
        rw [List.length_range] at this
        omega
      · rw [List.range_succ, List.filter_append, List.map_append, List.filter_cons, hP]
        rfl
    · refine ⟨n - (i + 1), by omega, rfl, hlt, ?_, s3, hH.trans sm, sm _ _ hacc⟩
      rw [List.range_succ, List.filter_append, List.map_append, List.filter_cons, hP]
      simp
  · have e : i = n := by omega
    subst e
    exact .inl ⟨hE H' hH, fin H' hH hacc⟩
end Rl

set_option linter.all false
namespace Rl
open Classical
/-! ## two adjacent bridges joined and taken away -/
/-- the bridge p of the shorter row, in the longer one -/
def upP (i p : Nat) : Nat := if p < i then p else p + 2
def dnP (i p : Nat) : Nat := if p < i then p else p - 2
def cap (i : Nat) (c : Nat → Nat) : Nat → Nat := fun p =>
  dnP i (if c (upP i p) = i then c (i + 1) else if c (upP i p) = i + 1 then c i else c (upP i p))
section
variable {N i : Nat} {c : Nat → Nat}
theorem upP_lt (h : i + 1 < N) {p : Nat} (hp : p < N - 2) : upP i p < N ∧ upP i p ≠ i ∧ upP i p ≠ i + 1 := by unfold upP; split <;> omega
theorem dn_up {p : Nat} : dnP i (upP i p) = p := by unfold dnP upP; split <;> (try split) <;> omega
theorem up_dn {q : Nat} (h1 : q ≠ i) (h2 : q ≠ i + 1) : upP i (dnP i q) = q := by unfold dnP upP; split <;> (try split) <;> omega
/-- what the longer row's end is -/
def capU (i : Nat) (c : Nat → Nat) (u : Nat) : Nat := if c u = i then c (i + 1) else if c u = i + 1 then c i else c u
theorem cap_eq (p : Nat) : cap i c p = dnP i (capU i c (upP i p)) := rfl
theorem capU_ok (C : IsArcs N c) (h : i + 1 < N) {u : Nat} (hu : u < N) (n1 : u ≠ i) (n2 : u ≠ i + 1) : capU i c u < N ∧ capU i c u ≠ i ∧ capU i c u ≠ i + 1 ∧ capU i c u ≠ u ∧ capU i c (capU i c u) = u := by
  have li := C.lt i (by omega)
  have lj := C.lt (i + 1) h
  have lu := C.lt u hu
  have ni := C.ne i (by omega)
  have nj := C.ne (i + 1) h
  have nu := C.ne u hu
  have bi := C.back i (by omega)
  have bj := C.back (i + 1) h
  have bu := C.back u hu
  unfold capU
  by_cases c1 : c u = i
  · rw [c1] at bu
    have e1 : c (i + 1) ≠ i := fun z => by rw [z] at bj; omega
    have e2 : c (i + 1) ≠ u := fun z => by rw [z] at bj; omega
    have e3 : ¬ c (c (i + 1)) = i := by omega
    rw [if_pos c1]
    refine ⟨lj, e1, nj, e2, ?_⟩
    rw [if_neg e3, if_pos bj]
    exact bu
  · rw [if_neg c1]
    by_cases c2 : c u = i + 1
    · rw [c2] at bu
      have e1 : c i ≠ i + 1 := fun z => by rw [z] at bi; omega
      have e2 : c i ≠ u := fun z => by rw [z] at bi; omega
      rw [if_pos c2]
      refine ⟨li, ni, e1, e2, ?_⟩
      rw [if_pos bi]
      exact bu
    · rw [if_neg c2]
      refine ⟨lu, c1, c2, nu, ?_⟩
      have e1 : ¬ c (c u) = i := by omega
      have e2 : ¬ c (c u) = i + 1 := by omega
      rw [if_neg e1, if_neg e2]
      exact bu
theorem dn_lt {p q : Nat} (h1 : p ≠ i) (h2 : p ≠ i + 1) (h3 : q ≠ i) (h4 : q ≠ i + 1) : dnP i p < dnP i q ↔ p < q := by unfold dnP; split <;> split <;> omega
theorem cap_cross (C : IsArcs N c) (h : i + 1 < N) {u v : Nat} (hu : u < N) (hv : v < N) (u1 : u ≠ i) (u2 : u ≠ i + 1) (v1 : v ≠ i) (v2 : v ≠ i + 1) : ¬ (u < v ∧ v < capU i c u ∧ capU i c u < capU i c v) := by
  have bi := C.back i (by omega)
  have bj := C.back (i + 1) h
  have bu := C.back u hu
  have bv := C.back v hv
  have hi : i < N := by omega
  have ni := C.ne i hi
  have nj := C.ne (i + 1) h
  have li := C.lt i hi
  have lj := C.lt (i + 1) h
  have k0 := C.cross u v hu hv
  unfold capU
  by_cases a1 : c u = i
  · have e : c i = u := by rw [← a1]; exact bu
    rw [if_pos a1]
    by_cases b1 : c v = i
    · have e2 : c i = v := by rw [← b1]; exact bv
      omega
    · rw [if_neg b1]
      by_cases b2 : c v = i + 1
      · have e2 : c (i + 1) = v := by rw [← b2]; exact bv
        rw [if_pos b2]; omega
      · rw [if_neg b2]
        have k1 := C.cross v (c (i + 1)) hv lj
        have k2 := C.cross (i + 1) v h hv
        rw [bj] at k1
        clear bi bv li lj
        omega
  · rw [if_neg a1]
    by_cases a2 : c u = i + 1
    · have e : c (i + 1) = u := by rw [← a2]; exact bu
      rw [if_pos a2]
      by_cases b1 : c v = i
      · have e2 : c i = v := by rw [← b1]; exact bv
        rw [if_pos b1]; omega
      · rw [if_neg b1]
        by_cases b2 : c v = i + 1
        · have e2 : c (i + 1) = v := by rw [← b2]; exact bv
          omega
        · rw [if_neg b2]
          have k1 := C.cross v (c i) hv li
          have k2 := C.cross i v hi hv
          rw [bi] at k1
          clear bj bv li lj
          omega
    · rw [if_neg a2]
      by_cases b1 : c v = i
      · have e2 : c i = v := by rw [← b1]; exact bv
        rw [if_pos b1]
        have k1 := C.cross i u hi hu
        have k2 := C.cross u (i + 1) hu h
        clear bj bu li lj
        omega
      · rw [if_neg b1]
        by_cases b2 : c v = i + 1
        · have e2 : c (i + 1) = v := by rw [← b2]; exact bv
          rw [if_pos b2]
          have k1 := C.cross (i + 1) u h hu
          have k2 := C.cross u i hu hi
          clear bi bu li lj
          omega
        · rw [if_neg b2]; exact k0
theorem cap_arcs (C : IsArcs N c) (h : i + 1 < N) : IsArcs (N - 2) (cap i c) := by
  refine ⟨fun p hp => ?_, fun p hp => ?_, fun p hp => ?_, fun p q hp hq => ?_⟩
  · obtain ⟨a1, a2, a3⟩ := upP_lt h hp
    obtain ⟨b1, b2, b3, b4, b5⟩ := capU_ok C h a1 a2 a3
    rw [cap_eq]
    unfold dnP
    split <;> omega
  · obtain ⟨a1, a2, a3⟩ := upP_lt h hp
    obtain ⟨b1, b2, b3, b4, b5⟩ := capU_ok C h a1 a2 a3
    rw [cap_eq]
    intro z
    have := congrArg (upP i) z
    rw [up_dn b2 b3] at this
    exact b4 this
  · obtain ⟨a1, a2, a3⟩ := upP_lt h hp
    obtain ⟨b1, b2, b3, b4, b5⟩ := capU_ok C h a1 a2 a3
    rw [cap_eq, cap_eq, up_dn b2 b3, b5, dn_up]
  · obtain ⟨a1, a2, a3⟩ := upP_lt h hp
    obtain ⟨b1, b2, b3, b4, b5⟩ := capU_ok C h a1 a2 a3
    obtain ⟨a1', a2', a3'⟩ := upP_lt h hq
    obtain ⟨b1', b2', b3', b4', b5'⟩ := capU_ok C h a1' a2' a3'
    rintro ⟨z1, z2, z3⟩
    rw [cap_eq] at z2 z3
    rw [cap_eq] at z3
    have y1 : upP i p < upP i q := by unfold upP; split <;> split <;> omega
    have y2 : upP i q < capU i c (upP i p) := by
      have e : q = dnP i (upP i q) := dn_up.symm
      rw [e] at z2
      exact (dn_lt a2' a3' b2 b3).mp z2
    have y3 := (dn_lt b2 b3 b2' b3').mp z3
    exact cap_cross C h a1 a1' a2 a3 a2' a3' ⟨y1, y2, y3⟩
end
/-! ## the seam closed pair by pair -/
def zip (n : Nat) (x y : Nat → Nat) : Nat → (Nat → Nat)
  | 0 => sideF (2 * n) x y
  | k + 1 => cap (2 * n - 1 - k) (zip n x y k)
theorem zip_arcs {n : Nat} {x y : Nat → Nat} (X : IsArcs (2 * n) x) (Y : IsArcs (2 * n) y) : ∀ k, k ≤ n → IsArcs (4 * n - 2 * k) (zip n x y k)
  | 0, _ => by
    have := side_arcs X Y
    rw [show 2 * n + 2 * n = 4 * n - 2 * 0 by omega] at this
    exact this
  | k + 1, h => by
    have := cap_arcs (i := 2 * n - 1 - k) (zip_arcs X Y k (by omega)) (by omega)
    rw [show 4 * n - 2 * k - 2 = 4 * n - 2 * (k + 1) by omega] at this
    exact this
def emb (n k p : Nat) : Nat := if p < 2 * n - k then p else p + 2 * k
theorem zip_conn {n : Nat} {x y : Nat → Nat} (X : IsArcs (2 * n) x) (Y : IsArcs (2 * n) y) : ∀ k, k ≤ n → ∀ p, p < 4 * n - 2 * k → Conn (GT n x y) (emb n k p) (emb n k (zip n x y k p))
  | 0, _, p, hp => by
    have e : ∀ p, emb n 0 p = p := fun p => by unfold emb; split <;> omega
    rw [e, e]
    show Conn _ p (sideF (2 * n) x y p)
    unfold sideF
    by_cases c : p < 2 * n
    · rw [if_pos c]; exact .one (.inl ⟨c, rfl⟩)
    · rw [if_neg c]
      exact .one (.inr (.inl ⟨p - 2 * n, by omega, by omega, rfl⟩))
  | k + 1, h, p, hp => by
    have ih := zip_conn X Y k (by omega)
    have A := zip_arcs X Y k (by omega)
    show Conn _ _ (emb n (k + 1) (cap (2 * n - 1 - k) (zip n x y k) p))
    rw [cap_eq]
    have hi : 2 * n - 1 - k + 1 < 4 * n - 2 * k := by omega
    obtain ⟨a1, a2, a3⟩ := upP_lt (p := p) hi (by omega)
    obtain ⟨b1, b2, b3, b4, b5⟩ := capU_ok A hi a1 a2 a3
    have e1 : ∀ q, q ≠ 2 * n - 1 - k → q ≠ 2 * n - 1 - k + 1 → emb n (k + 1) (dnP (2 * n - 1 - k) q) = emb n k q := fun q h1 h2 => by
      unfold emb dnP
      split <;> split <;> split <;> omega
    have e2 : emb n (k + 1) p = emb n k (upP (2 * n - 1 - k) p) := by
      unfold emb upP
      split <;> split <;> split <;> omega
    rw [e1 _ b2 b3, e2]
    have seam : Conn (GT n x y) (emb n k (2 * n - 1 - k)) (emb n k (2 * n - 1 - k + 1)) := by
      have q1 : emb n k (2 * n - 1 - k) = 2 * n - 1 - k := by unfold emb; rw [if_pos (by omega)]
      have q2 : emb n k (2 * n - 1 - k + 1) = 2 * n + k := by unfold emb; rw [if_neg (by omega)]; omega
      rw [q1, q2]
      exact .one (.inr (.inr ⟨k, by omega, rfl, rfl⟩))
    have cu := ih _ a1
    unfold capU
    by_cases c1 : zip n x y k (upP (2 * n - 1 - k) p) = 2 * n - 1 - k
    · rw [if_pos c1]
      rw [c1] at cu
      exact cu.trans (seam.trans (ih _ hi))
    · rw [if_neg c1]
      by_cases c2 : zip n x y k (upP (2 * n - 1 - k) p) = 2 * n - 1 - k + 1
      · rw [if_pos c2]
        rw [c2] at cu
        exact cu.trans (seam.symm.trans (ih _ (by omega)))
      · rw [if_neg c2]; exact cu
/-- what comes of rows of arcs does not cross -/
theorem Comp.arcs {n : Nat} {x y c : Nat → Nat} (X : IsArcs (2 * n) x) (Y : IsArcs (2 * n) y) (C : Comp n x y c) : IsArcs (2 * n) c := by
  have Z := zip_arcs X Y n (Nat.le_refl _)
  rw [show 4 * n - 2 * n = 2 * n by omega] at Z
  have key : ∀ k, k < 2 * n → zip n x y n k = c k := fun k hk => by
    have h := zip_conn X Y n (Nat.le_refl _) k (by omega)
    have e : ∀ q, emb n n q = out n q := fun q => by unfold emb out; rw [show 2 * n - n = n by omega]
    rw [e, e] at h
    rcases C.uni k _ hk (Z.lt k hk) h with q | q
    · exact absurd q (Z.ne k hk)
    · exact q
  exact Z.congr key
end Rl

set_option linter.all false
namespace Rl
open Classical
/-! ## the seam -/
def sm (n p : Nat) : Nat := if n ≤ p ∧ p < 3 * n then 4 * n - 1 - p else p
theorem sm_invo (n : Nat) : Invo (4 * n) (sm n) := ⟨fun i hi => by unfold sm; split <;> omega, fun i hi => by unfold sm; split <;> (try split) <;> omega⟩
theorem sm_fix {n p : Nat} : sm n p = p ↔ (p < n ∨ 3 * n ≤ p) := by unfold sm; split <;> omega
theorem sm_in {n p : Nat} (h : ¬ (p < n ∨ 3 * n ≤ p)) : sm n p = 4 * n - 1 - p := by unfold sm; rw [if_pos (by omega)]
theorem both_pairs {n : Nat} {x y : Nat → Nat} (X : IsArcs (2 * n) x) (Y : IsArcs (2 * n) y) : Pairs (4 * n) (sideF (2 * n) x y) := by
  have := (side_arcs X Y).pairs
  rwa [show 2 * n + 2 * n = 4 * n by omega] at this
section
variable {n : Nat} {x y : Nat → Nat}
theorem seam_conn {p q : Nat} : Conn (Ties (4 * n) (sideF (2 * n) x y) (sm n)) p q ↔ Conn (GT n x y) p q := by
  constructor
  · refine Conn.lift (f := id) fun u v ⟨hu, t⟩ => ?_
    show Conn _ u v
    rcases t with t | t
    · subst t
      unfold sideF
      by_cases c : u < 2 * n
      · rw [if_pos c]; exact .one (.inl ⟨c, rfl⟩)
      · rw [if_neg c]; exact .one (.inr (.inl ⟨u - 2 * n, by omega, by omega, rfl⟩))
    · subst t
      unfold sm
      by_cases c : n ≤ u ∧ u < 3 * n
      · rw [if_pos c]
        by_cases d : u < 2 * n
        · exact .one (.inr (.inr ⟨2 * n - 1 - u, by omega, by omega, by omega⟩))
        · exact .two (.inr (.inr ⟨u - 2 * n, by omega, by omega, by omega⟩))
      · rw [if_neg c]; exact .refl _
  · refine Conn.lift (f := id) fun u v t => ?_
    show Conn _ u v
    rcases t with ⟨h, e⟩ | ⟨w, hw, e1, e2⟩ | ⟨k, hk, e1, e2⟩
    · exact .one ⟨by omega, .inl (by unfold sideF; rw [if_pos h]; exact e)⟩
    · exact .one ⟨by omega, .inl (by unfold sideF; rw [if_neg (by omega), e2, e1]; congr 2; omega)⟩
    · exact .one ⟨by omega, .inr (by unfold sm; rw [if_pos (by omega)]; omega)⟩
def uno (n p : Nat) : Nat := if p < n then p else p - 2 * n
theorem uno_out (k : Nat) : uno n (out n k) = k := by unfold uno out; split <;> (try split) <;> omega
theorem out_uno {p : Nat} (h : p < n ∨ 3 * n ≤ p) : out n (uno n p) = p := by unfold uno out; split <;> (try split) <;> omega
theorem out_end {k : Nat} (h : k < 2 * n) : (out n k < n ∨ 3 * n ≤ out n k) ∧ out n k < 4 * n := by unfold out; split <;> omega
theorem uno_lt {p : Nat} (h : p < n ∨ 3 * n ≤ p) (h2 : p < 4 * n) : uno n p < 2 * n := by unfold uno; split <;> omega
/-- the walk's end -/
noncomputable def lastP (a b : Nat → Nat) (f : Nat) : Nat := a (itr a b f (stopAt a b f))
noncomputable def laidF (n : Nat) (x y : Nat → Nat) (k : Nat) : Nat := uno n (lastP (sideF (2 * n) x y) (sm n) (out n k))
/-- a walk from an end comes to another end -/
theorem last_end (X : IsArcs (2 * n) x) (Y : IsArcs (2 * n) y) {f : Nat} (hf : f < 4 * n) (he : f < n ∨ 3 * n ≤ f) :
    (lastP (sideF (2 * n) x y) (sm n) f < n ∨ 3 * n ≤ lastP (sideF (2 * n) x y) (sm n) f) ∧ lastP (sideF (2 * n) x y) (sm n) f ≠ f ∧ lastP (sideF (2 * n) x y) (sm n) f < 4 * n := by
  have A := both_pairs X Y
  have B := sm_invo n
  have S := stopAt_spec A B hf
  have lt := itr_lt A B hf
  have hfx : sm n f = f := sm_fix.mpr he
  have key : lastP (sideF (2 * n) x y) (sm n) f ≠ f := fun z => by
    have h2 := congrArg (sideF (2 * n) x y) z
    unfold lastP at h2
    rw [A.back _ (lt _)] at h2
    exact noself A B _ f hf (fun i hi => (S.go i hi).1) h2.symm
  refine ⟨?_, key, A.lt _ (lt _)⟩
  rcases S.stop with q | q
  · exact sm_fix.mp q
  · exfalso
    apply key
    have := congrArg (sm n) q
    rw [B.back _ (A.lt _ (lt _)), hfx] at this
    exact this
/-- of the points of a walk only the first and the last are ends -/
theorem way_ends (X : IsArcs (2 * n) x) (Y : IsArcs (2 * n) y) {f : Nat} (hf : f < 4 * n) {p : Nat} (hp : p ∈ way (sideF (2 * n) x y) (sm n) f) (he : p < n ∨ 3 * n ≤ p) : p = f ∨ p = lastP (sideF (2 * n) x y) (sm n) f := by
  have A := both_pairs X Y
  have B := sm_invo n
  have S := stopAt_spec A B hf
  have lt := itr_lt A B hf
  have hfx : sm n p = p := sm_fix.mpr he
  obtain ⟨i, hi, e | e⟩ := mem_wayL.mp hp
  · cases i with
    | zero => exact .inl e
    | succ i =>
      exfalso
      refine (S.go i (by omega)).1 ?_
      have e' : p = sm n (sideF (2 * n) x y (itr (sideF (2 * n) x y) (sm n) f i)) := e
      have := hfx
      rw [e', B.back _ (A.lt _ (lt i))] at this
      exact this.symm
  · by_cases c : i = stopAt (sideF (2 * n) x y) (sm n) f
    · right; rw [e, c]; rfl
    · exfalso
      refine (S.go i (by omega)).1 ?_
      rw [← e]; exact hfx
theorem laid_comp (X : IsArcs (2 * n) x) (Y : IsArcs (2 * n) y) : Comp n x y (laidF n x y) := by
  have A := both_pairs X Y
  have B := sm_invo n
  have con : ∀ k, k < 2 * n → Conn (GT n x y) (out n k) (out n (laidF n x y k)) := fun k hk => by
    obtain ⟨o1, o2⟩ := out_end hk
    obtain ⟨l1, l2, l3⟩ := last_end X Y o2 o1
    unfold laidF
    rw [out_uno l1]
    refine seam_conn.mp ((mem_way A B o2 (.inl (sm_fix.mpr o1))).mp ?_)
    exact mem_wayL.mpr ⟨_, by omega, .inr rfl⟩
  have uni : ∀ k j, k < 2 * n → j < 2 * n → Conn (GT n x y) (out n k) (out n j) → j = k ∨ j = laidF n x y k := fun k j hk hj c => by
    obtain ⟨o1, o2⟩ := out_end hk
    obtain ⟨p1, p2⟩ := out_end hj
    rcases way_ends X Y o2 ((mem_way A B o2 (.inl (sm_fix.mpr o1))).mpr (seam_conn.mpr c)) p1 with q | q
    · exact .inl (out_inj q)
    · right
      unfold laidF
      rw [← q, uno_out]
  have lt : ∀ k, k < 2 * n → laidF n x y k < 2 * n := fun k hk => by
    obtain ⟨o1, o2⟩ := out_end hk
    obtain ⟨l1, l2, l3⟩ := last_end X Y o2 o1
    exact uno_lt l1 l3
  have ne : ∀ k, k < 2 * n → laidF n x y k ≠ k := fun k hk z => by
    obtain ⟨o1, o2⟩ := out_end hk
    obtain ⟨l1, l2, l3⟩ := last_end X Y o2 o1
    apply l2
    rw [← out_uno l1]
    exact congrArg (out n) z
  refine ⟨⟨lt, ne, fun k hk => ?_⟩, con, uni⟩
  rcases uni k _ hk (lt _ (lt k hk)) ((con k hk).trans (con _ (lt k hk))) with q | q
  · exact q
  · exact absurd q (ne _ (lt k hk))
/-! ## the rings -/
/-- a point that no walk from an end meets: its walk comes to no end -/
theorem ring_free (X : IsArcs (2 * n) x) (Y : IsArcs (2 * n) y) {f : Nat} (hf : Ring n x y f) : ∀ i, sm n (sideF (2 * n) x y (itr (sideF (2 * n) x y) (sm n) f i)) ≠ sideF (2 * n) x y (itr (sideF (2 * n) x y) (sm n) f i) := fun i z => by
  have A := both_pairs X Y
  have B := sm_invo n
  have lt := itr_lt A B hf.1
  have he := sm_fix.mp z
  refine hf.2 (uno n (sideF (2 * n) x y (itr (sideF (2 * n) x y) (sm n) f i))) (uno_lt he (A.lt _ (lt i))) ?_
  rw [out_uno he]
  refine seam_conn.mp ?_
  have c : ∀ i, Conn (Ties (4 * n) (sideF (2 * n) x y) (sm n)) f (itr (sideF (2 * n) x y) (sm n) f i) := fun i => by
    induction i with
    | zero => exact .refl _
    | succ i ih => exact (ih.trans (.one ⟨lt i, .inl rfl⟩)).trans (.one ⟨A.lt _ (lt i), .inr rfl⟩)
  exact (c i).trans (.one ⟨lt i, .inl rfl⟩)
/-- the ends' walks -/
noncomputable def endL (n : Nat) (x y : Nat → Nat) (k : Nat) : List Nat := ((List.range k).map fun j => way (sideF (2 * n) x y) (sm n) (out n j)).flatten
theorem mem_endL (X : IsArcs (2 * n) x) (Y : IsArcs (2 * n) y) {p : Nat} (hp : p < 4 * n) : p ∈ endL n x y (2 * n) ↔ ¬ Ring n x y p := by
  have A := both_pairs X Y
  have B := sm_invo n
  unfold endL
  rw [List.mem_flatten]
  constructor
  · rintro ⟨l, hl, h⟩ R
    obtain ⟨j, hj, rfl⟩ := List.mem_map.mp hl
    rw [List.mem_range] at hj
    obtain ⟨o1, o2⟩ := out_end hj
    exact R.2 j hj (seam_conn.mp ((mem_way A B o2 (.inl (sm_fix.mpr o1))).mp h)).symm
  · intro R
    have : ∃ k, k < 2 * n ∧ Conn (GT n x y) p (out n k) := byContradiction fun no => R ⟨hp, fun k hk c => no ⟨k, hk, c⟩⟩
    obtain ⟨k, hk, c⟩ := this
    obtain ⟨o1, o2⟩ := out_end hk
    exact ⟨_, List.mem_map.mpr ⟨k, List.mem_range.mpr hk, rfl⟩, (mem_way A B o2 (.inl (sm_fix.mpr o1))).mpr (seam_conn.mpr c.symm)⟩
/-- as many walks more as rings -/
theorem scan_rings (X : IsArcs (2 * n) x) (Y : IsArcs (2 * n) y) : (scan (way (sideF (2 * n) x y) (sm n)) (endL n x y (2 * n)) (4 * n)).length = rgs n x y := by
  have A := both_pairs X Y
  have B := sm_invo n
  have isR : ∀ r, r ∈ scan (way (sideF (2 * n) x y) (sm n)) (endL n x y (2 * n)) (4 * n) → Ring n x y r := fun r hr =>
    byContradiction fun no => scan_new hr ((mem_endL X Y (scan_lt hr)).mpr no)
  have mw : ∀ r, Ring n x y r → ∀ p, p ∈ way (sideF (2 * n) x y) (sm n) r ↔ Conn (GT n x y) r p := fun r hr p => (mem_way A B hr.1 (.inr (ring_free X Y hr))).trans seam_conn
  unfold rgs
  refine (cls_reps Conn.eqv ?_ (fun r hr => ?_) fun p hp => ?_).symm
  · refine (List.Pairwise.and_mem.mp (scan_apart (4 * n))).imp ?_
    rintro r r' ⟨hr, _, h⟩ c
    exact h ((mw r (isR r hr) r').mpr c)
  · rw [List.mem_filter, List.mem_range, decide_eq_true_eq]
    exact ⟨scan_lt hr, isR r hr⟩
  · rw [List.mem_filter, List.mem_range, decide_eq_true_eq] at hp
    have := scan_met (w := way (sideF (2 * n) x y) (sm n)) (k0 := endL n x y (2 * n)) way_self hp.1
    rcases List.mem_append.mp this with z | z
    · exact absurd hp.2 ((mem_endL X Y hp.1).mp z)
    · obtain ⟨l, hl, h⟩ := List.mem_flatten.mp z
      obtain ⟨r, hr, rfl⟩ := List.mem_map.mp hl
      exact ⟨r, hr, ((mw r (isR r hr) p).mp h).symm⟩
end
theorem ends_list (n : Nat) : (List.range (4 * n)).filter (fun p => decide (p < n) || decide (3 * n ≤ p)) = (List.range (2 * n)).map (out n) := by
  have e1 : List.range (4 * n) = List.range n ++ (List.range (2 * n)).map (n + ·) ++ (List.range n).map (3 * n + ·) := by
    rw [show 4 * n = n + 2 * n + n by omega, List.range_add, List.range_add]
    congr 2
    funext k
    omega
  have e2 : List.range (2 * n) = List.range n ++ (List.range n).map (n + ·) := by rw [show 2 * n = n + n by omega, List.range_add]
  have f1 : (List.range n).filter (fun p => decide (p < n) || decide (3 * n ≤ p)) = List.range n := by
    rw [List.filter_eq_self]
    intro p hp
    rw [List.mem_range] at hp
    simp [hp]
  have f2 : ((List.range (2 * n)).map (n + ·)).filter (fun p => decide (p < n) || decide (3 * n ≤ p)) = [] := by
    rw [List.filter_eq_nil_iff]
    intro p hp
    obtain ⟨k, hk, rfl⟩ := List.mem_map.mp hp
    rw [List.mem_range] at hk
    simp
    omega
  have f3 : ((List.range n).map (3 * n + ·)).filter (fun p => decide (p < n) || decide (3 * n ≤ p)) = (List.range n).map (3 * n + ·) := by
    rw [List.filter_eq_self]
    intro p hp
    obtain ⟨k, hk, rfl⟩ := List.mem_map.mp hp
    simp
  rw [e1, List.filter_append, List.filter_append, f1, f2, f3, e2, List.map_append, List.append_nil, List.map_map]
  congr 1
  · conv => lhs; rw [← List.map_id (List.range n)]
    refine List.map_congr_left fun k hk => ?_
    rw [List.mem_range] at hk
    unfold out
    rw [if_pos hk]
    rfl
  · refine List.map_congr_left fun k hk => ?_
    show 3 * n + k = out n (n + k)
    unfold out
    rw [if_neg (by omega)]
    omega
end Rl

set_option Elab.async false
set_option linter.all false
set_option maxRecDepth 100000
namespace Rl
open PySem L2
def endB (n p : Nat) : Bool := decide (p < n) || decide (3 * n ≤ p)
theorem endB_iff {n p : Nat} : endB n p = true ↔ (p < n ∨ 3 * n ≤ p) := by unfold endB; simp
theorem endB_no {n p : Nat} : endB n p = false ↔ ¬ (p < n ∨ 3 * n ≤ p) := by rw [← endB_iff]; simp
theorem atI_last (xs : List V) (y : V) : atI (xs ++ [y]) (-1) = some y := by
  unfold atI ixN
  rw [if_neg (by omega), List.length_append]
  simp
  rw [if_pos (by omega), show (-1 + ((xs.length : Int) + 1)).toNat = xs.length by omega]
  simp
theorem idxOf_of {x : Int} : ∀ {l : List Int} {j : Nat}, l[j]? = some x → (∀ i, i < j → l[i]? ≠ some x) → l.idxOf x = j
  | [], j, h, _ => by simp at h
  | y :: r, 0, h, _ => by
    simp at h
    rw [h, List.idxOf_cons]
    simp
  | y :: r, j + 1, h, hn => by
    have h0 := hn 0 (by omega)
    have ne : ¬ y = x := fun z => h0 (by rw [z]; rfl)
    rw [List.idxOf_cons]
    have : (y == x) = false := by simpa using ne
    rw [this, idxOf_of (l := r) (j := j) h (fun i hi => hn (i + 1) (by omega))]
    rfl
theorem idx_out {n j : Nat} (h : j < 2 * n) : (ni ((List.range (2 * n)).map (out n))).idxOf ((out n j : Nat) : Int) = j := by
  have g : ∀ i, i < 2 * n → (ni ((List.range (2 * n)).map (out n)))[i]? = some ((out n i : Nat) : Int) := fun i hi => by unfold ni; simp [hi]
  refine idxOf_of (g j h) fun i hi z => ?_
  rw [g i (by omega)] at z
  have := Option.some.inj z
  have := out_inj (n := n) (u := i) (v := j) (by omega)
  omega
theorem way_split {a b : Nat → Nat} {f : Nat} : (ni (way a b f)).map V.int = (ni (wayL a b f (stopAt a b f) ++ [itr a b f (stopAt a b f)])).map V.int ++ [.int (lastP a b f : Nat)] := by
  unfold way
  rw [show wayL a b f (stopAt a b f + 1) = (wayL a b f (stopAt a b f) ++ [itr a b f (stopAt a b f)]) ++ [lastP a b f] by simp [wayL, lastP], nv_append]
  rfl
theorem wayL_split {a b : Nat → Nat} {f i : Nat} : (ni (wayL a b f (i + 1))).map V.int = (ni (wayL a b f i ++ [itr a b f i])).map V.int ++ [.int (a (itr a b f i) : Nat)] := by
  rw [show wayL a b f (i + 1) = (wayL a b f i ++ [itr a b f i]) ++ [a (itr a b f i)] by simp [wayL], nv_append]
  rfl
theorem endL_succ {n : Nat} {x y : Nat → Nat} (k : Nat) : endL n x y (k + 1) = endL n x y k ++ way (sideF (2 * n) x y) (sm n) (out n k) := by
  unfold endL
  rw [List.range_succ, List.map_append, List.flatten_append]
  simp
theorem way_len {n : Nat} {a b : Nat → Nat} (A : Pairs n a) (B : Invo n b) {f : Nat} (hf : f < n) : (way a b f).length ≤ 2 * n := by
  unfold way
  rw [wayL_length]
  have := stopAt_lt A B hf
  omega
end Rl
namespace Rl
open PySem L2
end Rl

namespace Rl
open PySem L2
theorem lt_line {n : Nat} (h : n ≤ 100000) : n < sizeLine := Nat.lt_of_le_of_lt h (by decide)
end Rl

set_option linter.all false
namespace Rl
open Classical
/-! ## names spread along ties -/
def sumL (n : Nat) (lab : Nat → Nat) : Nat := ((List.range n).map lab).sum
theorem sumL_succ (n : Nat) (lab : Nat → Nat) : sumL (n + 1) lab = sumL n lab + lab n := by unfold sumL; rw [List.range_succ, List.map_append, List.sum_append]; simp
theorem sumL_le {lab lab' : Nat → Nat} : ∀ {n : Nat}, (∀ p, p < n → lab' p ≤ lab p) → sumL n lab' ≤ sumL n lab
  | 0, _ => Nat.le_refl _
  | n + 1, h => by
    rw [sumL_succ, sumL_succ]
    have := sumL_le (n := n) fun p hp => h p (by omega)
    have := h n (by omega)
    omega
theorem sumL_lt {lab lab' : Nat → Nat} : ∀ {n : Nat}, (∀ p, p < n → lab' p ≤ lab p) → (∃ p, p < n ∧ lab' p < lab p) → sumL n lab' < sumL n lab
  | 0, _, h => by obtain ⟨p, hp, _⟩ := h; omega
  | n + 1, h, h2 => by
    rw [sumL_succ, sumL_succ]
    obtain ⟨p, hp, hl⟩ := h2
    by_cases c : p = n
    · subst c
      have := sumL_le (n := p) fun q hq => h q (by omega)
      omega
    · have := sumL_lt (n := n) (fun q hq => h q (by omega)) ⟨p, by omega, hl⟩
      have := h n (by omega)
      omega
/-- both ends of a tie get the lesser name -/
def lower (lab : Nat → Nat) (u v : Nat) : Nat → Nat := put (put lab u (min (lab u) (lab v))) v (min (lab u) (lab v))
section
variable {n : Nat} {x y : Nat → Nat}
structure Lab (n : Nat) (x y lab : Nat → Nat) : Prop where
  lt : ∀ p, p < 4 * n → lab p < 4 * n
  con : ∀ p, p < 4 * n → Conn (GT n x y) p (lab p)
theorem Lab.start : Lab n x y (fun p => p) := ⟨fun _ h => h, fun p _ => .refl p⟩
theorem lower_le {lab : Nat → Nat} {u v p : Nat} : lower lab u v p ≤ lab p := by
  unfold lower put
  split
  · rename_i h; rw [h]; omega
  · split
    · rename_i h; rw [h]; omega
    · exact Nat.le_refl _
theorem Lab.lower {lab : Nat → Nat} (L : Lab n x y lab) {u v : Nat} (hu : u < 4 * n) (hv : v < 4 * n) (t : Conn (GT n x y) u v) : Lab n x y (lower lab u v) := by
  have lo : min (lab u) (lab v) < 4 * n := by have := L.lt u hu; omega
  have cu : Conn (GT n x y) u (min (lab u) (lab v)) := by
    by_cases c : lab u ≤ lab v
    · rw [Nat.min_eq_left c]; exact L.con u hu
    · rw [Nat.min_eq_right (by omega)]; exact t.trans (L.con v hv)
  refine ⟨fun p hp => ?_, fun p hp => ?_⟩
  · have := L.lt p hp
    exact Nat.lt_of_le_of_lt lower_le this
  · unfold Rl.lower put
    split
    · rename_i h; rw [h]; exact t.symm.trans cu
    · split
      · rename_i h; rw [h]; exact cu
      · exact L.con p hp
theorem lower_less {lab : Nat → Nat} {u v N : Nat} (hu : u < N) (hv : v < N) (h : lab u ≠ min (lab u) (lab v) ∨ lab v ≠ min (lab u) (lab v)) : sumL N (lower lab u v) < sumL N lab := by
  refine sumL_lt (fun p _ => lower_le) ?_
  rcases h with h | h
  · refine ⟨u, hu, ?_⟩
    unfold lower put
    split
    · rename_i e; subst e; omega
    · rw [if_pos rfl]; omega
  · refine ⟨v, hv, ?_⟩
    unfold lower put
    rw [if_pos rfl]; omega
/-- all ties: of the rows by turns, then the seam -/
def tieA (n : Nat) (x y : Nat → Nat) : Nat → List (Nat × Nat)
  | 0 => []
  | k + 1 => tieA n x y k ++ [(k, x k), (2 * n + k, 2 * n + y k)]
def tieB (n : Nat) : Nat → List (Nat × Nat)
  | 0 => []
  | k + 1 => tieB n k ++ [(2 * n - 1 - k, 2 * n + k)]
theorem mem_tieA {k : Nat} {e : Nat × Nat} : e ∈ tieA n x y k ↔ ∃ j, j < k ∧ (e = (j, x j) ∨ e = (2 * n + j, 2 * n + y j)) := by
  induction k with
  | zero => simp [tieA]
  | succ k ih =>
    rw [tieA, List.mem_append, ih]
    constructor
    · rintro (⟨j, hj, h⟩ | h)
      · exact ⟨j, by omega, h⟩
      · exact ⟨k, by omega, by simpa using h⟩
    · rintro ⟨j, hj, h⟩
      by_cases c : j = k
      · subst c; right; simpa using h
      · left; exact ⟨j, by omega, h⟩
theorem mem_tieB {k : Nat} {e : Nat × Nat} : e ∈ tieB n k ↔ ∃ j, j < k ∧ e = (2 * n - 1 - j, 2 * n + j) := by
  induction k with
  | zero => simp [tieB]
  | succ k ih =>
    rw [tieB, List.mem_append, ih]
    constructor
    · rintro (⟨j, hj, h⟩ | h)
      · exact ⟨j, by omega, h⟩
      · exact ⟨k, by omega, by simpa using h⟩
    · rintro ⟨j, hj, h⟩
      by_cases c : j = k
      · subst c; right; simpa using h
      · left; exact ⟨j, by omega, h⟩
def ties (n : Nat) (x y : Nat → Nat) : List (Nat × Nat) := tieA n x y (2 * n) ++ tieB n n
theorem mem_ties {e : Nat × Nat} : e ∈ ties n x y ↔ GT n x y e.1 e.2 := by
  unfold ties GT
  rw [List.mem_append, mem_tieA, mem_tieB]
  constructor
  · rintro (⟨j, hj, h | h⟩ | ⟨j, hj, h⟩)
    · rw [h]; exact .inl ⟨hj, rfl⟩
    · rw [h]; exact .inr (.inl ⟨j, hj, rfl, rfl⟩)
    · rw [h]; exact .inr (.inr ⟨j, hj, rfl, rfl⟩)
  · rintro (⟨h, e1⟩ | ⟨j, hj, e1, e2⟩ | ⟨j, hj, e1, e2⟩)
    · exact .inl ⟨e.1, h, .inl (Prod.ext rfl e1)⟩
    · exact .inl ⟨j, hj, .inr (Prod.ext e1 e2)⟩
    · exact .inr ⟨j, hj, Prod.ext e1 e2⟩
theorem tieA_len (k : Nat) : (tieA n x y k).length = 2 * k := by
  induction k with
  | zero => rfl
  | succ k ih => rw [tieA, List.length_append, ih]; simp; omega
theorem tieB_len (k : Nat) : (tieB n k).length = k := by
  induction k with
  | zero => rfl
  | succ k ih => rw [tieB, List.length_append, ih]; simp
/-- when all ties agree, names tell the heaps -/
theorem Lab.same {lab : Nat → Nat} (L : Lab n x y lab) (h : ∀ e, e ∈ ties n x y → lab e.1 = lab e.2) {p q : Nat} (hp : p < 4 * n) (hq : q < 4 * n) : lab p = lab q ↔ Conn (GT n x y) p q := by
  constructor
  · intro e
    have := L.con q hq
    rw [← e] at this
    exact (L.con p hp).trans this.symm
  · intro c
    have := Conn.inv (p := fun z => lab p = lab z) (fun a b t => by rw [h (a, b) (mem_ties.mpr t)]) c
    exact this.mp rfl
/-! ## what the names tell -/
theorem due_at (X : IsArcs (2 * n) x) (Y : IsArcs (2 * n) y) {lab : Nat → Nat} (hl : ∀ p q, p < 4 * n → q < 4 * n → (lab p = lab q ↔ Conn (GT n x y) p q)) {k : Nat} (hk : k < 2 * n) :
    (List.range (2 * n)).filter (fun j => decide (j ≠ k ∧ lab (out n j) = lab (out n k))) = [laidF n x y k] := by
  have C := laid_comp X Y
  have mem : ∀ j, j ∈ (List.range (2 * n)).filter (fun j => decide (j ≠ k ∧ lab (out n j) = lab (out n k))) ↔ j = laidF n x y k := fun j => by
    rw [List.mem_filter, List.mem_range, decide_eq_true_eq]
    constructor
    · rintro ⟨hj, ne, e⟩
      have c := (hl _ _ (out_end hj).2 (out_end hk).2).mp e
      rcases C.uni k j hk hj c.symm with q | q
      · exact absurd q ne
      · exact q
    · intro e
      subst e
      exact ⟨C.pr.lt k hk, C.pr.ne k hk, (hl _ _ (out_end (C.pr.lt k hk)).2 (out_end hk).2).mpr (C.con k hk).symm⟩
  have nd : ((List.range (2 * n)).filter (fun j => decide (j ≠ k ∧ lab (out n j) = lab (out n k)))).Nodup := List.Pairwise.filter _ List.nodup_range
  generalize (List.range (2 * n)).filter (fun j => decide (j ≠ k ∧ lab (out n j) = lab (out n k))) = l at mem nd
  match l, mem, nd with
  | [], mem, _ => have := (mem (laidF n x y k)).mpr rfl; cases this
  | [a], mem, _ => have := (mem a).mp List.mem_cons_self; rw [this]
  | a :: b :: r, mem, nd =>
    have h1 := (mem a).mp List.mem_cons_self
    have h2 := (mem b).mp (List.mem_cons_of_mem _ List.mem_cons_self)
    have := (List.nodup_cons.mp nd).1
    rw [h1, ← h2] at this
    exact absurd List.mem_cons_self this
/-- the different ones of a list, as they come -/
def ded (acc : List Nat) (v : Nat) : List Nat := if v ∈ acc then acc else acc ++ [v]
theorem ded_mem {l : List Nat} : ∀ {acc : List Nat} {v : Nat}, v ∈ l.foldl ded acc ↔ v ∈ acc ∨ v ∈ l := by
  induction l with
  | nil => intro acc v; simp
  | cons a r ih =>
    intro acc v
    rw [List.foldl_cons, ih]
    unfold ded
    split
    · rename_i h
      constructor
      · rintro (z | z)
        · exact .inl z
        · exact .inr (List.mem_cons_of_mem _ z)
      · rintro (z | z)
        · exact .inl z
        · rcases List.mem_cons.mp z with q | q
          · rw [q]; exact .inl h
          · exact .inr q
    · rw [List.mem_append, List.mem_singleton, List.mem_cons]
      constructor
      · rintro ((z | z) | z)
        · exact .inl z
        · exact .inr (.inl z)
        · exact .inr (.inr z)
      · rintro (z | z | z)
        · exact .inl (.inl z)
        · exact .inl (.inr z)
        · exact .inr z
theorem ded_nodup {l : List Nat} : ∀ {acc : List Nat}, acc.Nodup → (l.foldl ded acc).Nodup := by
  induction l with
  | nil => intro acc h; exact h
  | cons a r ih =>
    intro acc h
    rw [List.foldl_cons]
    refine ih ?_
    unfold ded
    split
    · exact h
    · rename_i c
      refine List.nodup_append.mpr ⟨h, by simp, fun p hp q hq e => ?_⟩
      simp at hq
      subst hq
      exact c (e ▸ hp)
/-- every ring comes to the seam -/
theorem ring_seam (X : IsArcs (2 * n) x) (Y : IsArcs (2 * n) y) {p : Nat} (hp : Ring n x y p) : ∃ j, j < n ∧ Conn (GT n x y) p (2 * n + j) := by
  have no := hp.2
  have l := hp.1
  have sea : ∀ q, n ≤ q → q < 3 * n → Conn (GT n x y) p q → ∃ j, j < n ∧ Conn (GT n x y) p (2 * n + j) := fun q h1 h2 c => by
    by_cases d : q < 2 * n
    · exact ⟨2 * n - 1 - q, by omega, c.trans (.one (.inr (.inr ⟨2 * n - 1 - q, by omega, by omega, rfl⟩)))⟩
    · exact ⟨q - 2 * n, by omega, by rw [show 2 * n + (q - 2 * n) = q by omega]; exact c⟩
  by_cases a : p < n
  · exact absurd (by unfold out; rw [if_pos a]; exact .refl _) (no p (by omega))
  by_cases b : 3 * n ≤ p
  · exact absurd (by unfold out; rw [if_neg (by omega), show p - 2 * n + 2 * n = p by omega]; exact .refl _) (no (p - 2 * n) (by omega))
  exact sea p (by omega) (by omega) (.refl _)
theorem rings_at (X : IsArcs (2 * n) x) (Y : IsArcs (2 * n) y) {lab : Nat → Nat} (L : Lab n x y lab) (hl : ∀ p q, p < 4 * n → q < 4 * n → (lab p = lab q ↔ Conn (GT n x y) p q)) :
    ((((List.range n).filter fun j => decide (lab (2 * n + j) ∉ (List.range (2 * n)).map fun k => lab (out n k))).map fun j => lab (2 * n + j)).foldl ded []).length = rgs n x y := by
  have isR : ∀ j, j < n → (lab (2 * n + j) ∉ (List.range (2 * n)).map (fun k => lab (out n k)) ↔ Ring n x y (2 * n + j)) := fun j hj => by
    constructor
    · intro h
      refine ⟨by omega, fun k hk c => h (List.mem_map.mpr ⟨k, List.mem_range.mpr hk, ?_⟩)⟩
      exact ((hl _ _ (by omega) (out_end hk).2).mpr c).symm
    · intro h z
      obtain ⟨k, hk, e⟩ := List.mem_map.mp z
      rw [List.mem_range] at hk
      exact h.2 k hk ((hl _ _ (by omega) (out_end hk).2).mp e.symm)
  have mem : ∀ v, v ∈ (((List.range n).filter fun j => decide (lab (2 * n + j) ∉ (List.range (2 * n)).map fun k => lab (out n k))).map fun j => lab (2 * n + j)).foldl ded [] ↔ ∃ j, j < n ∧ Ring n x y (2 * n + j) ∧ v = lab (2 * n + j) := fun v => by
    rw [ded_mem]
    constructor
    · rintro (z | z)
      · cases z
      · obtain ⟨j, hj, e⟩ := List.mem_map.mp z
        rw [List.mem_filter, List.mem_range, decide_eq_true_eq] at hj
        exact ⟨j, hj.1, (isR j hj.1).mp hj.2, e.symm⟩
    · rintro ⟨j, hj, hr, e⟩
      exact .inr (List.mem_map.mpr ⟨j, List.mem_filter.mpr ⟨List.mem_range.mpr hj, decide_eq_true ((isR j hj).mpr hr)⟩, e.symm⟩)
  have nd : ((((List.range n).filter fun j => decide (lab (2 * n + j) ∉ (List.range (2 * n)).map fun k => lab (out n k))).map fun j => lab (2 * n + j)).foldl ded []).Nodup := ded_nodup List.nodup_nil
  generalize (((List.range n).filter fun j => decide (lab (2 * n + j) ∉ (List.range (2 * n)).map fun k => lab (out n k))).map fun j => lab (2 * n + j)).foldl ded [] = l at mem nd
  unfold rgs
  -- the names are points of the rings themselves
  have isring : ∀ v, v ∈ l → Ring n x y v ∧ ∃ j, j < n ∧ v = lab (2 * n + j) := fun v hv => by
    obtain ⟨j, hj, hr, e⟩ := (mem v).mp hv
    refine ⟨?_, j, hj, e⟩
    have c := L.con (2 * n + j) (by omega)
    refine ⟨by rw [e]; exact L.lt _ (by omega), fun k hk cc => hr.2 k hk ?_⟩
    rw [e] at cc
    exact c.trans cc
  refine (cls_reps Conn.eqv ?_ (fun v hv => ?_) fun p hp => ?_).symm
  · refine (List.Pairwise.and_mem.mp nd).imp ?_
    rintro v v' ⟨hv, hv', ne⟩ c
    obtain ⟨_, j, hj, e⟩ := isring v hv
    obtain ⟨_, j', hj', e'⟩ := isring v' hv'
    apply ne
    rw [e, e']
    refine (hl _ _ (by omega) (by omega)).mpr ?_
    have c1 := L.con (2 * n + j) (by omega)
    have c2 := L.con (2 * n + j') (by omega)
    rw [← e] at c1
    rw [← e'] at c2
    exact c1.trans (c.trans c2.symm)
  · rw [List.mem_filter, List.mem_range, decide_eq_true_eq]
    exact ⟨(isring v hv).1.1, (isring v hv).1⟩
  · rw [List.mem_filter, List.mem_range, decide_eq_true_eq] at hp
    obtain ⟨j, hj, c⟩ := ring_seam X Y hp.2
    have hr : Ring n x y (2 * n + j) := ⟨by omega, fun k hk cc => hp.2.2 k hk (c.trans cc)⟩
    exact ⟨lab (2 * n + j), (mem _).mpr ⟨j, hj, hr, rfl⟩, c.trans (L.con _ (by omega))⟩
end
end Rl

set_option Elab.async false
set_option linter.all false
set_option maxRecDepth 100000
namespace L2
open PySem PySem.Spec PyProof.Rows
section
variable {X : Cx} {K : PySem.W.Frag}
theorem op_notIn_seqK (h : X.K = K) : OpR X (compareOp .NotIn) (rIn K true) := h ▸ op_notIn_seq
theorem ints_are : ∀ {ns : List Int} {us : List Value}, Vals (ns.map V.int) us → PyProof.Rows.IntsAre us ns
  | [], _, .nil => .nil
  | n :: r, u :: us, .cons h t => by
    obtain ⟨k, rfl⟩ := h
    exact .cons n k (ints_are (ns := r) t)
/-- set(list of ints) -/
theorem call_set (hc : X.calm = true) : CallR X (.type "set") (fun xs H Q => ∃ (p : Addr) (ns : List Int), xs = [.ref p] ∧ SqL X.K H p (ns.map V.int) ∧ ns.length ≤ 1000 ∧ ∀ l S, H l = none → Q (.ref l) (upd H l (.set S (firstMet (fun i => ns.getD i 0) ns.length).length))) := by
  intro pins s σ H xs us Q I r h
  obtain ⟨p, ns, rfl, hq, hz, q⟩ := h
  obtain ⟨u, rfl, rx⟩ := vals1 r
  cases rx
  obtain ⟨its, r', pl, hz'⟩ := I.list hq
  have hlen := r'.length
  rw [List.length_map] at hlen
  refine call_set_list (ns := ns) (I.ok.hd hc) pl.isList (by simpa using ints_are r') (by unfold scanBound; simp; omega) fun h' tk hS hk => ?_
  rw [show its.toArray.size = ns.length by simp; omega] at hS
  refine ⟨.ref s.heap.objs.size, _, I.laid (t' := tk) (o := .set _ _) (fun b o e => hk b o (Heap.lt_size e) e) (Nat.le_refl _) (show ObjOk X.prog X.w _ h' _ (.set _ _) from hS), rfl, q _ _ (I.hok.fresh (Nat.le_refl _))⟩
theorem call_lenSet : CallR X (.builtin "len") (fun xs H Q => ∃ (p : Addr) (S : Int → Bool) (n : Nat), xs = [.ref p] ∧ H p = some (.set S n) ∧ Q (.int n) H) := by
  intro pins s σ H xs us Q I r h
  obtain ⟨p, S, n, rfl, hq, q⟩ := h
  obtain ⟨u, rfl, rx⟩ := vals1 r
  cases rx
  obtain ⟨o, es, ep, t, e1, e2, e3, _, _, e4, e5, e6⟩ := (show ObjOk X.prog X.w H s.heap p (.set S n) from I.hok p _ hq)
  have hb : (es.size : Int) < 2 ^ 63 := by unfold scanBound at e4; omega
  refine call_len_set e1 e2 e3 e5 hb ?_
  rw [e6]
  exact ⟨.int n, H, I.kept fun _ _ e => e, ⟨_, rfl⟩, q⟩
end
end L2
namespace Rl
open PySem L2
theorem firstMet_ded : ∀ (l : List Nat), (PyProof.Rows.firstMet (fun i => (ni l).getD i 0) (ni l).length).length = (l.foldl ded []).length := by
  intro l
  have e1 : PyProof.Rows.firstMet (fun i => (ni l).getD i 0) (ni l).length = (ni l).foldl PyProof.Rows.step_dedup [] := by
    unfold PyProof.Rows.firstMet
    congr 1
    apply List.ext_getElem?
    intro i
    rw [List.getElem?_map]
    by_cases c : i < (ni l).length
    · rw [List.getElem?_range c]
      simp [List.getD_eq_getElem?_getD, List.getElem?_eq_getElem c]
    · rw [List.getElem?_eq_none (by simpa using c), List.getElem?_eq_none (by omega)]
      rfl
  have key : ∀ (l acc : List Nat), (ni l).foldl PyProof.Rows.step_dedup (ni acc) = ni (l.foldl ded acc) := by
    intro l
    induction l with
    | nil => intro acc; rfl
    | cons a r ih =>
      intro acc
      show (ni r).foldl PyProof.Rows.step_dedup (PyProof.Rows.step_dedup (ni acc) (a : Int)) = ni (r.foldl ded (ded acc a))
      rw [← ih]
      congr 1
      unfold PyProof.Rows.step_dedup ded
      by_cases c : a ∈ acc
      · rw [if_pos c, if_pos (by rw [List.any_eq_true]; exact ⟨(a : Int), mem_ni.mpr c, by simp⟩)]
      · rw [if_neg c, if_neg (by
          rw [List.any_eq_true]
          rintro ⟨z, hz, e⟩
          have : z = (a : Int) := by simpa using e
          subst this
          exact c (mem_ni.mp hz)), ni_append]
        rfl
  rw [e1, show (ni l).foldl PyProof.Rows.step_dedup [] = ni (l.foldl ded []) from key l [], ni_length]
/-! ## names as they lie -/
def kp (n p : Nat) : List Key := if p < 2 * n then [.inr "one", .inl (p : Int)] else [.inr "other", .inl ((p - 2 * n : Nat) : Int)]
theorem kp_inj {n p q : Nat} (h : kp n p = kp n q) : p = q := by
  unfold kp at h
  split at h <;> split at h
  · simp at h; omega
  · simp at h
    exact absurd h.1 (by decide)
  · simp at h
    exact absurd h.1 (by decide)
  · simp at h; omega
def NamesAt (H : Hp) (d : Addr) (n : Nat) (lab : Nat → Nat) : Prop := ∃ kvs : List (List Key × V), H d = some (.dT kvs) ∧ kvs.length ≤ 100000 ∧ ∀ p, p < 4 * n → valV kvs (kp n p) = some (.int (lab p : Nat))
theorem len_putK {κ : Type} [DecidableEq κ] {kvs : List (κ × V)} {k : κ} {v w : V} (h : valV kvs k = some w) : (putK kvs k v).length = kvs.length := by
  unfold putK
  split
  · exact List.length_map _
  · rename_i c
    exfalso
    unfold valV at h
    obtain ⟨kv, hkv, _⟩ := Option.map_eq_some_iff.mp h
    have m := List.mem_of_find?_eq_some hkv
    have e := List.find?_some hkv
    apply c
    rw [List.any_eq_true]
    exact ⟨kv, m, e⟩
theorem NamesAt.put {H : Hp} {d : Addr} {n : Nat} {lab : Nat → Nat} {kvs : List (List Key × V)} (e1 : kvs.length ≤ 100000) (e2 : ∀ p, p < 4 * n → valV kvs (kp n p) = some (.int (lab p : Nat))) {p v : Nat} (hp : p < 4 * n) :
    NamesAt (upd H d (.dT (putK kvs (kp n p) (.int (v : Nat))))) d n (put lab p v) := by
  refine ⟨_, upd_same, by rw [len_putK (e2 p hp)]; exact e1, fun q hq => ?_⟩
  rw [valV_put]
  unfold Rl.put
  by_cases c : q = p
  · subst c; rw [if_pos rfl, if_pos rfl]
  · rw [if_neg c, if_neg (fun z => c (kp_inj z))]
    exact e2 q hq
theorem NamesAt.get {H : Hp} {d b : Addr} {n : Nat} {lab : Nat → Nat} (h : NamesAt H d n lab) {p : Nat} (hp : p < 4 * n) (hb : H b = some (.tup ((kp n p).map kV))) : DGet H d (.ref b) (some (.int (lab p : Nat))) := by
  obtain ⟨kvs, e, _, e2⟩ := h
  have := DGet.t e hb
  rwa [e2 p hp] at this
/-- all the same but d -/
def SameB (d : Addr) (H H' : Hp) : Prop := ∀ b o, b ≠ d → H b = some o → H' b = some o
theorem SameB.refl (d : Addr) (H : Hp) : SameB d H H := fun _ _ _ h => h
theorem SameB.upd {d : Addr} {H H' : Hp} (a : SameB d H H') (o : HO) : SameB d H (upd H' d o) := fun c u n h => by rw [upd_ne n]; exact a c u n h
/-- ties as they lie -/
def TiesAt (H : Hp) (n : Nat) (as : List Addr) (es : List (Nat × Nat)) : Prop := as.length = es.length ∧ ∀ (i : Nat) (t : Addr) (e : Nat × Nat), as[i]? = some t → es[i]? = some e → ∃ l r, H t = some (.tup [.ref l, .ref r]) ∧ H l = some (.tup ((kp n e.1).map kV)) ∧ H r = some (.tup ((kp n e.2).map kV))
theorem TiesAt.nil (H : Hp) (n : Nat) : TiesAt H n [] [] := ⟨rfl, fun i t e h => by simp at h⟩
theorem TiesAt.same {H H' : Hp} {n : Nat} {as : List Addr} {es : List (Nat × Nat)} (h : TiesAt H n as es) (S : Same H H') : TiesAt H' n as es :=
  ⟨h.1, fun i t e h1 h2 => by obtain ⟨l, r, a, b, c⟩ := h.2 i t e h1 h2; exact ⟨l, r, S _ _ a, S _ _ b, S _ _ c⟩⟩
theorem TiesAt.sameB {H H' : Hp} {d : Addr} {n : Nat} {kvs : List (List Key × V)} {as : List Addr} {es : List (Nat × Nat)} (h : TiesAt H n as es) (S : SameB d H H') (hd : H d = some (.dT kvs)) : TiesAt H' n as es :=
  ⟨h.1, fun i t e h1 h2 => by
    obtain ⟨l, r, a, b, c⟩ := h.2 i t e h1 h2
    have ne : ∀ z xs, H z = some (.tup xs) → z ≠ d := fun z xs hz q => by rw [q, hd] at hz; cases hz
    exact ⟨l, r, S _ _ (ne _ _ a) a, S _ _ (ne _ _ b) b, S _ _ (ne _ _ c) c⟩⟩
theorem TiesAt.upd {H : Hp} {n : Nat} {as : List Addr} {es : List (Nat × Nat)} {l : Addr} {xs : List V} {o : HO} (h : TiesAt H n as es) (hl : H l = some (.lst xs)) : TiesAt (upd H l o) n as es :=
  ⟨h.1, fun i t e h1 h2 => by
    obtain ⟨a, b, p, q, r⟩ := h.2 i t e h1 h2
    have ne : ∀ z ys, H z = some (.tup ys) → z ≠ l := fun z ys hz w => by rw [w, hl] at hz; cases hz
    exact ⟨a, b, by rw [upd_ne (ne _ _ p)]; exact p, by rw [upd_ne (ne _ _ q)]; exact q, by rw [upd_ne (ne _ _ r)]; exact r⟩⟩
theorem TiesAt.push {H : Hp} {n : Nat} {as : List Addr} {es : List (Nat × Nat)} {t l r : Addr} {e : Nat × Nat} (h : TiesAt H n as es) (a : H t = some (.tup [.ref l, .ref r])) (b : H l = some (.tup ((kp n e.1).map kV))) (c : H r = some (.tup ((kp n e.2).map kV))) : TiesAt H n (as ++ [t]) (es ++ [e]) := by
  refine ⟨by rw [List.length_append, List.length_append, h.1]; rfl, fun i y f h1 h2 => ?_⟩
  by_cases z : i < as.length
  · rw [List.getElem?_append_left z] at h1
    rw [List.getElem?_append_left (by rw [← h.1]; exact z)] at h2
    exact h.2 i y f h1 h2
  · rw [List.getElem?_append_right (by omega)] at h1
    rw [List.getElem?_append_right (by rw [← h.1]; omega), ← h.1] at h2
    have c0 : i - as.length = 0 := by
      have := (List.getElem?_eq_some_iff.mp h1).1
      simp at this
      omega
    rw [c0] at h1 h2
    cases h1
    cases h2
    exact ⟨l, r, a, b, c⟩
theorem kp_one {n k : Nat} (h : k < 2 * n) : (kp n k).map kV = [.str "one", .int (k : Nat)] := by unfold kp; rw [if_pos h]; rfl
theorem kp_other (n k : Nat) : (kp n (2 * n + k)).map kV = [.str "other", .int (k : Nat)] := by unfold kp; rw [if_neg (by omega), show 2 * n + k - 2 * n = k by omega]; rfl
end Rl

set_option Elab.async false
set_option linter.all false
set_option maxRecDepth 100000
set_option maxHeartbeats 4000000
namespace Rl
open PySem L2
def top (i : Nat) : Stmt := PySem.Challenge.pw_riverloops_k10_laid_beneath.main.body.getD i (.Pass ⟨0, 0, 0, 0⟩)
abbrev s_is_length : Stmt := top 7
theorem sc_is_length : FnScope ["bridges"] ["bridges"] (defScope s_is_length) := ⟨rfl, rfl, rfl, by decide +kernel, rfl, by decide +kernel, by decide +kernel⟩
abbrev s_leads_back : Stmt := top 9
theorem sc_leads_back : FnScope ["some", "here", "there"] ["some", "here"] (defScope s_leads_back) := ⟨rfl, rfl, rfl, by decide +kernel, rfl, by decide +kernel, by decide +kernel⟩
abbrev s_all_lead_back : Stmt := top 8
theorem sc_all_lead_back : FnScope ["some", "here"] ["some"] (defScope s_all_lead_back) := ⟨rfl, rfl, rfl, by decide +kernel, rfl, by decide +kernel, by decide +kernel⟩
abbrev s_none_cross : Stmt := top 10
theorem sc_none_cross : FnScope ["some", "waiting", "here", "there"] ["some"] (defScope s_none_cross) := ⟨rfl, rfl, rfl, by decide +kernel, rfl, by decide +kernel, by decide +kernel⟩
abbrev s_is_arcs : Stmt := top 6
theorem sc_is_arcs : FnScope ["some"] ["some"] (defScope s_is_arcs) := ⟨rfl, rfl, rfl, by decide +kernel, rfl, by decide +kernel, by decide +kernel⟩
abbrev s_refuse_no_arcs : Stmt := top 11
theorem sc_refuse_no_arcs : FnScope ["some", "called"] ["some", "called"] (defScope s_refuse_no_arcs) := ⟨rfl, rfl, rfl, by decide +kernel, rfl, by decide +kernel, by decide +kernel⟩
abbrev s_refuse_no_rows : Stmt := top 12
theorem sc_refuse_no_rows : FnScope ["one", "other"] ["one", "other"] (defScope s_refuse_no_rows) := ⟨rfl, rfl, rfl, by decide +kernel, rfl, by decide +kernel, by decide +kernel⟩
abbrev s_refuse_unlike : Stmt := top 13
theorem sc_refuse_unlike : FnScope ["one", "other"] ["one", "other"] (defScope s_refuse_unlike) := ⟨rfl, rfl, rfl, by decide +kernel, rfl, by decide +kernel, by decide +kernel⟩
abbrev s_in_one_row : Stmt := top 14
theorem sc_in_one_row : FnScope ["one", "other"] ["one", "other"] (defScope s_in_one_row) := ⟨rfl, rfl, rfl, by decide +kernel, rfl, by decide +kernel, by decide +kernel⟩
abbrev s_is_end : Stmt := top 17
theorem sc_is_end : FnScope ["both", "bridge", "quarter"] ["both", "bridge"] (defScope s_is_end) := ⟨rfl, rfl, rfl, by decide +kernel, rfl, by decide +kernel, by decide +kernel⟩
abbrev s_way_from : Stmt := top 18
theorem sc_way_from : FnScope ["both", "first", "last", "way"] ["both", "first"] (defScope s_way_from) := ⟨rfl, rfl, rfl, by decide +kernel, rfl, by decide +kernel, by decide +kernel⟩
abbrev s_many_rings : Stmt := top 19
theorem sc_many_rings : FnScope ["both", "met", "known", "rings", "bridge"] ["both", "met"] (defScope s_many_rings) := ⟨rfl, rfl, rfl, by decide +kernel, rfl, by decide +kernel, by decide +kernel⟩
abbrev s_laid : Stmt := top 16
theorem sc_laid : FnScope ["one", "other", "both", "ends", "arcs", "met", "end", "way"] ["one", "other"] (defScope s_laid) := ⟨rfl, rfl, rfl, by decide +kernel, rfl, by decide +kernel, by decide +kernel⟩
abbrev s_law_cell_at : Stmt := top 21
theorem sc_law_cell_at : FnScope ["script", "k"] ["script", "k"] (defScope s_law_cell_at) := ⟨rfl, rfl, rfl, by decide +kernel, rfl, by decide +kernel, by decide +kernel⟩
abbrev s_law_whole : Stmt := top 22
theorem sc_law_whole : FnScope ["found"] ["found"] (defScope s_law_whole) := ⟨rfl, rfl, rfl, by decide +kernel, rfl, by decide +kernel, by decide +kernel⟩
abbrev s_law_numbers : Stmt := top 23
theorem sc_law_numbers : FnScope ["found", "due", "x"] ["found", "due"] (defScope s_law_numbers) := ⟨rfl, rfl, rfl, by decide +kernel, rfl, by decide +kernel, by decide +kernel⟩
abbrev s_law_arcs : Stmt := top 24
theorem sc_law_arcs : FnScope ["script", "at", "size", "found", "ahead", "k", "cell", "other"] ["script", "at", "size"] (defScope s_law_arcs) := ⟨rfl, rfl, rfl, by decide +kernel, rfl, by decide +kernel, by decide +kernel⟩
abbrev s_law_good : Stmt := top 25
theorem sc_law_good : FnScope ["some", "k", "j"] ["some"] (defScope s_law_good) := ⟨rfl, rfl, rfl, by decide +kernel, rfl, by decide +kernel, by decide +kernel⟩
abbrev s_law_names : Stmt := top 26
theorem sc_law_names : FnScope ["one", "other", "size", "ties", "k", "j", "names", "more", "left", "right", "low"] ["one", "other"] (defScope s_law_names) := ⟨rfl, rfl, rfl, by decide +kernel, rfl, by decide +kernel, by decide +kernel⟩
abbrev s_law : Stmt := top 27
theorem sc_law : FnScope ["script", "size", "one", "other", "names", "outer", "due", "k", "rings", "handed", "turn", "found"] ["script"] (defScope s_law) := ⟨rfl, rfl, rfl, by decide +kernel, rfl, by decide +kernel, by decide +kernel⟩
section
variable {P : Program} {w : World} {K : PySem.W.Frag} {mg : Str → Option Value} {base : Heap} {dV : Value} {f : Addr} {fd : FuncData}
def sp_is_length : Sp := fun vs H Q _ => ∃ i : Int, vs = [.int i] ∧ Q (.bl (isLenM i)) H
theorem ok_is_length (F : FunD K "is_length" "is_length" s_is_length dV f fd) {tM : Tok} (mMOST_ARCS : mg "MOST_ARCS" = some (.int 20 tM)) : FnOk P w K mg base CX0 1 f fd ["bridges"] sp_is_length := by
  refine F.ok (k := 0) sc_is_length (fun vs H Q E h => ?_) (fun cdv A outer s H vs Q E hr h => ?_)
  · obtain ⟨_, rfl, _⟩ := h; rfl
  obtain ⟨i, rfl, q⟩ := h
  have nd := sc_is_length.nd
  refine ⟨_, (pss_one (ps_ret (pe_and (pe_cmpR op_eq (pe_op op_mod (pv 0) pe_int) pe_int (nomark _)) (pe_and (pe_cmpR op_ge (pv 0) pe_int (nomark _)) (pe_one (pe_cmpR op_le (pv 0) (pe_op op_mul pe_int (pe_glob (v := .int 20) rfl mMOST_ARCS ⟨_, rfl⟩)) (nomark _))))))), ?_⟩
  unfold isLenM at q
  (repeat (first | refine ⟨_, rfl, ?_⟩ | refine ⟨_, _, rfl, rfl, ?_⟩ | refine ⟨rfl, ?_⟩ | refine ⟨_, _, rfl, .inl (by assumption), ?_⟩ | refine ⟨Or.inl ⟨by decide, by decide⟩, ?_⟩ | refine ⟨(by show (0 : Int) < _; decide), ?_⟩ | refine ⟨⟨by decide, by decide⟩, ?_⟩))
  refine ite2 (fun c => ?_) (fun c => ?_)
  · have c' : i % 2 = 0 := V.int.inj (of_decide_eq_true c)
    (repeat (first | refine ⟨_, rfl, ?_⟩ | refine ⟨_, _, rfl, rfl, ?_⟩ | refine ⟨rfl, ?_⟩ | refine ⟨_, _, rfl, .inl (by assumption), ?_⟩ | refine ⟨Or.inl ⟨by decide, by decide⟩, ?_⟩ | refine ⟨(by show (0 : Int) < _; decide), ?_⟩ | refine ⟨⟨by decide, by decide⟩, ?_⟩))
    refine ite2 (fun d => ?_) (fun d => ?_)
    · (repeat (first | refine ⟨_, rfl, ?_⟩ | refine ⟨_, _, rfl, rfl, ?_⟩ | refine ⟨rfl, ?_⟩ | refine ⟨_, _, rfl, .inl (by assumption), ?_⟩ | refine ⟨Or.inl ⟨by decide, by decide⟩, ?_⟩ | refine ⟨(by show (0 : Int) < _; decide), ?_⟩ | refine ⟨⟨by decide, by decide⟩, ?_⟩))
      exact toB q (by simp [c', of_decide_eq_true d])
    · exact toB q (by simp at d; simp [c']; omega)
  · exact toB q (by
      have c' : ¬ i % 2 = 0 := fun z => c (decide_eq_true (congrArg V.int z))
      simp [c'])

def sp_leads_back (K : PySem.W.Frag) : Sp := fun vs H Q _ => ∃ (a : Addr) (xs : List Int) (i : Int), vs = [.ref a, .int i] ∧ SqL K H a (xs.map V.int) ∧ 0 ≤ i ∧ i < xs.length ∧ Q (.bl (leadsBackM xs i)) H
theorem ok_leads_back (F : FunD K "leads_back" "leads_back" s_leads_back dV f fd) (mlen : mg "len" = none) : FnOk P w K mg base CX0 1 f fd ["some", "here"] (sp_leads_back K) := by
  refine F.ok (k := 0) sc_leads_back (fun vs H Q E h => ?_) (fun cdv A outer s H vs Q E hr h => ?_)
  · obtain ⟨_, _, _, rfl, _⟩ := h; rfl
  obtain ⟨a, xs, i, rfl, hS, h0, h1, q⟩ := h
  have nd := sc_leads_back.nd
  refine ⟨_, (pss_cons (ps_set (i := 2) nd rfl (Or.inl rfl) (pe_ix ix_list (pv 0) (pv 1) (fun _ _ => rfl)))
  (pss_cons (ps_if (PW.pt (pw_or (pt_cmpR op_lt (pv 2) pe_int (nomark _)) (pw_or1 (pt_cmpR op_ge (pv 2) (pe_callB call_len_seq rfl mlen PySem.boot_len (pa_cons (pv 0) pa_nil)) (nomark _))))) (pss_one (ps_ret pe_bl)) pss_nil)
  (pss_one (ps_ret (pe_and (pe_cmpR op_ne (pv 2) (pv 1) (nomark _)) (pe_one (pe_cmpR op_eq (pe_ix ix_list (pv 0) (pv 2) (fun _ _ => rfl)) (pv 1) (nomark _)))))))), ?_⟩
  obtain ⟨v, hv⟩ : ∃ v, xs[i.toNat]? = some v := ⟨_, List.getElem?_eq_getElem (by omega)⟩
  have gv : xs.getD i.toNat 0 = v := by rw [List.getD_eq_getElem?_getD, hv]; rfl
  unfold leadsBackM at q
  rw [gv] at q
  (repeat (first | refine ⟨_, rfl, ?_⟩ | refine ⟨_, _, rfl, rfl, ?_⟩ | refine ⟨rfl, ?_⟩ | refine ⟨_, _, rfl, .inl (by assumption), ?_⟩ | refine ⟨Or.inl ⟨by decide, by decide⟩, ?_⟩ | refine ⟨(by show (0 : Int) < _; decide), ?_⟩ | refine ⟨⟨by decide, by decide⟩, ?_⟩))
  refine ⟨_, _, _, _, rfl, rfl, hS, atI_int h0 hv, ?_⟩
  (repeat (first | refine ⟨_, rfl, ?_⟩ | refine ⟨_, _, rfl, rfl, ?_⟩ | refine ⟨rfl, ?_⟩ | refine ⟨_, _, rfl, .inl (by assumption), ?_⟩ | refine ⟨Or.inl ⟨by decide, by decide⟩, ?_⟩ | refine ⟨(by show (0 : Int) < _; decide), ?_⟩ | refine ⟨⟨by decide, by decide⟩, ?_⟩))
  refine ite2 (fun c => ?_) (fun c => ?_)
  · refine iteT ?_
    exact toB q (by have := of_decide_eq_true c; rw [decide_eq_false (by omega)]; rfl)
  have c1 : 0 ≤ v := by simp at c; exact c
  (repeat (first | refine ⟨_, rfl, ?_⟩ | refine ⟨_, _, rfl, rfl, ?_⟩ | refine ⟨rfl, ?_⟩ | refine ⟨_, _, rfl, .inl (by assumption), ?_⟩ | refine ⟨Or.inl ⟨by decide, by decide⟩, ?_⟩ | refine ⟨(by show (0 : Int) < _; decide), ?_⟩ | refine ⟨⟨by decide, by decide⟩, ?_⟩))
  refine ite2 (fun d => ?_) (fun d => ?_)
  · exact toB q (by simp at d; rw [decide_eq_false (show ¬ v < (xs.length : Int) by omega)]; simp)
  have d1 : v < xs.length := by simp at d; exact d
  obtain ⟨u, hu⟩ : ∃ u, xs[v.toNat]? = some u := ⟨_, List.getElem?_eq_getElem (by omega)⟩
  have gu : xs.getD v.toNat 0 = u := by rw [List.getD_eq_getElem?_getD, hu]; rfl
  rw [gu] at q
  (repeat (first | refine ⟨_, rfl, ?_⟩ | refine ⟨_, _, rfl, rfl, ?_⟩ | refine ⟨rfl, ?_⟩ | refine ⟨_, _, rfl, .inl (by assumption), ?_⟩ | refine ⟨Or.inl ⟨by decide, by decide⟩, ?_⟩ | refine ⟨(by show (0 : Int) < _; decide), ?_⟩ | refine ⟨⟨by decide, by decide⟩, ?_⟩))
  refine ite2 (fun e => ?_) (fun e => ?_)
  · have e1 : v ≠ i := fun z => by rw [z] at e; simp at e
    (repeat (first | refine ⟨_, rfl, ?_⟩ | refine ⟨_, _, rfl, rfl, ?_⟩ | refine ⟨rfl, ?_⟩ | refine ⟨_, _, rfl, .inl (by assumption), ?_⟩ | refine ⟨Or.inl ⟨by decide, by decide⟩, ?_⟩ | refine ⟨(by show (0 : Int) < _; decide), ?_⟩ | refine ⟨⟨by decide, by decide⟩, ?_⟩))
    refine ⟨_, _, _, _, rfl, rfl, hS, atI_int c1 hu, ?_⟩
    (repeat (first | refine ⟨_, rfl, ?_⟩ | refine ⟨_, _, rfl, rfl, ?_⟩ | refine ⟨rfl, ?_⟩ | refine ⟨_, _, rfl, .inl (by assumption), ?_⟩ | refine ⟨Or.inl ⟨by decide, by decide⟩, ?_⟩ | refine ⟨(by show (0 : Int) < _; decide), ?_⟩ | refine ⟨⟨by decide, by decide⟩, ?_⟩))
    exact toB q (by simp [c1, d1, e1])
  · have e1 : v = i := by
      simp at e; exact e
    exact toB q (by simp [e1])

def sp_all_lead_back (K : PySem.W.Frag) : Sp := fun vs H Q _ => ∃ (a : Addr) (xs : List Int), vs = [.ref a] ∧ SqL K H a (xs.map V.int) ∧ xs.length ≤ 1000 ∧ Q (.bl (allBackM xs)) H
theorem ok_all_lead_back (F : FunD K "all_lead_back" "all_lead_back" s_all_lead_back dV f fd) (c_leads_back : Fn P w K mg base CX0 "leads_back" ["some", "here"] [] 1 (sp_leads_back K)) (mlen : mg "len" = none) (mrange : mg "range" = none) : FnOk P w K mg base CX0 2 f fd ["some"] (sp_all_lead_back K) := by
  refine F.ok (k := 1) sc_all_lead_back (fun vs H Q E h => ?_) (fun cdv A outer s H vs Q E hr h => ?_)
  · obtain ⟨_, _, rfl, _⟩ := h; rfl
  obtain ⟨a, xs, rfl, hS, hz, q⟩ := h
  have nd := sc_all_lead_back.nd
  refine ⟨_, (pss_cons (ps_for PassesOwn.never rfl (pi_range1 rfl mrange (pa_cons (pe_callB call_len_seq rfl mlen PySem.boot_len (pa_cons (pv 0) pa_nil)) pa_nil)) (pg_name (i := 1) nd rfl (Or.inl rfl)) (pss_one (ps_if (pt_not (pt_val (pe_fn c_leads_back hr (by decide) rfl (pa_cons (pv 0) (pa_cons (pv 1) pa_nil))))) (pss_one (ps_ret pe_bl)) pss_nil)))
  (pss_one (ps_ret pe_bl))), ?_⟩
  have hl : (xs.map V.int).length = xs.length := List.length_map _
  (repeat (first | refine ⟨_, rfl, ?_⟩ | refine ⟨_, _, rfl, rfl, ?_⟩ | refine ⟨rfl, ?_⟩ | refine ⟨_, _, rfl, .inl (by assumption), ?_⟩ | refine ⟨Or.inl ⟨by decide, by decide⟩, ?_⟩ | refine ⟨(by show (0 : Int) < _; decide), ?_⟩ | refine ⟨⟨by decide, by decide⟩, ?_⟩))
  refine ⟨by omega, by omega, ?_⟩
  rw [Int.toNat_natCast]
  refine for_range (fun i σ H' => H' = H ∧ (∃ v, σ = [some (.ref a), v]) ∧ ∀ j, j < i → leadsBackM xs j = true) ⟨rfl, ⟨_, rfl⟩, fun j h => absurd h (Nat.not_lt_zero _)⟩ ?_ ?_
  · rintro i σ H' hi ⟨rfl, ⟨v, rfl⟩, hb⟩
    rw [hl] at hi
    have e0 : (0 : Int) + (i : Int) = i := by omega
    rw [e0]
    (repeat (first | refine ⟨_, rfl, ?_⟩ | refine ⟨_, _, rfl, rfl, ?_⟩ | refine ⟨rfl, ?_⟩ | refine ⟨_, _, rfl, .inl (by assumption), ?_⟩ | refine ⟨Or.inl ⟨by decide, by decide⟩, ?_⟩ | refine ⟨(by show (0 : Int) < _; decide), ?_⟩ | refine ⟨⟨by decide, by decide⟩, ?_⟩))
    refine ⟨a, xs, (i : Int), rfl, hS, by omega, by omega, ?_⟩
    (repeat (first | refine ⟨_, rfl, ?_⟩ | refine ⟨_, _, rfl, rfl, ?_⟩ | refine ⟨rfl, ?_⟩ | refine ⟨_, _, rfl, .inl (by assumption), ?_⟩ | refine ⟨Or.inl ⟨by decide, by decide⟩, ?_⟩ | refine ⟨(by show (0 : Int) < _; decide), ?_⟩ | refine ⟨⟨by decide, by decide⟩, ?_⟩))
    cases e : leadsBackM xs i with
    | false =>
      refine iteT ?_
      exact toB q (by
        cases e2 : allBackM xs with
        | false => rfl
        | true =>
          have := List.all_eq_true.mp e2 i (List.mem_range.mpr hi)
          rw [e] at this; cases this)
    | true =>
      refine iteF ?_
      refine ⟨rfl, ⟨_, rfl⟩, fun j hj => ?_⟩
      by_cases z : j = i
      · rw [z]; exact e
      · exact hb j (by omega)
  · rintro σ H' ⟨rfl, _, hb⟩
    rw [hl] at hb
    exact toB q (List.all_eq_true.mpr fun j hj => hb j (List.mem_range.mp hj))

def sp_none_cross (K : PySem.W.Frag) : Sp := fun vs H Q _ => ∃ (a : Addr) (n : Nat) (g : Nat → Nat), vs = [.ref a] ∧ SqL K H a ((tab n g).map V.int) ∧ n ≤ 1000 ∧ Pairs n g ∧ ∀ H', Same H H' → Q (.bl (noCrossM (tab n g))) H'
theorem ok_none_cross (F : FunD K "none_cross" "none_cross" s_none_cross dV f fd) (menumerate : mg "enumerate" = none) : FnOk P w K mg base CX0 1 f fd ["some"] (sp_none_cross K) := by
  refine F.ok (k := 0) sc_none_cross (fun vs H Q E h => ?_) (fun cdv A outer s H vs Q E hr h => ?_)
  · obtain ⟨_, _, _, rfl, _⟩ := h; rfl
  obtain ⟨a, n, g, rfl, hS, hz, hP, q⟩ := h
  have nd := sc_none_cross.nd
  refine ⟨_, (pss_cons (ps_set (i := 1) nd rfl (Or.inl rfl) (pe_lst pa_nil))
  (pss_cons (ps_for PassesOwn.never rfl (pi_enum rfl menumerate (pa_cons (pv 0) pa_nil)) (pg_tup rfl (pgs_cons (pg_name (i := 2) nd rfl (Or.inl rfl)) (pgs_cons (pg_name (i := 3) nd rfl (Or.inl rfl)) pgs_nil))) (pss_one (ps_if (pt_cmpR op_gt (pv 3) (pv 2) (nomark _)) (pss_one (ps_expr (pe_bm PySem.F.plainAttrs_list PySem.F.slot_list_append PySem.F.type_list_append mt_append (pv 1) (pa_cons (pv 2) pa_nil)))) (pss_one (ps_if (pt_cmpR op_ne (pe_bm0 PySem.F.plainAttrs_list PySem.F.slot_list_pop PySem.F.type_list_pop mt_pop (pv 1)) (pv 3) (nomark _)) (pss_one (ps_ret pe_bl)) pss_nil)))))
  (pss_one (ps_ret pe_bl)))), ?_⟩
  refine ⟨by decide, fun l hlN => ?_⟩
  have S0 : Same H (upd H l (.lst [])) := same_upd_new hlN _
  (repeat (first | refine ⟨_, rfl, ?_⟩ | refine ⟨_, _, rfl, rfl, ?_⟩ | refine ⟨rfl, ?_⟩ | refine ⟨_, _, rfl, .inl (by assumption), ?_⟩ | refine ⟨Or.inl ⟨by decide, by decide⟩, ?_⟩ | refine ⟨(by show (0 : Int) < _; decide), ?_⟩ | refine ⟨⟨by decide, by decide⟩, ?_⟩))
  refine ⟨⟨_, S0.seq hS⟩, ?_⟩
  refine for_enum (xs := (tab n g).map V.int) (fun i σ H' => Same H H' ∧ H' l = some (.lst ((opens g i).map fun j : Nat => V.int (j : Int))) ∧ (∃ u v, σ = [some (.ref a), some (.ref l), u, v]) ∧ ∀ t, t < i → g t < t → (opens g t).getLast? = some (g t)) ⟨S0, upd_same, ⟨_, _, rfl⟩, fun t h => absurd h (Nat.not_lt_zero _)⟩ (fun i σ H' _ h => h.1.seq hS) ?_ ?_
  · rintro i x σ H' p hx ⟨S1, hw, ⟨u, v, rfl⟩, hb⟩ hp
    have hi : i < n := by
      have := (List.getElem?_eq_some_iff.mp hx).1
      simpa [tab_length] using this
    have ex : x = .int (g i : Int) := by
      rw [List.getElem?_map, tab_get hi] at hx
      exact (Option.some.inj hx).symm
    subst ex
    have hw' : upd H' p (.tup [.int i, .int (g i : Int)]) l = some (.lst ((opens g i).map fun j : Nat => V.int (j : Int))) := by rw [upd_ne (ne_of_none hw hp)]; exact hw
    have S2 : Same H (upd H' p (.tup [.int i, .int (g i : Int)])) := S1.trans (same_upd_new hp _)
    refine ⟨p, _, rfl, SqT.of upd_same, rfl, _, _, rfl, _, _, rfl, rfl, ?_⟩
    (repeat (first | refine ⟨_, rfl, ?_⟩ | refine ⟨_, _, rfl, rfl, ?_⟩ | refine ⟨rfl, ?_⟩ | refine ⟨_, _, rfl, .inl (by assumption), ?_⟩ | refine ⟨Or.inl ⟨by decide, by decide⟩, ?_⟩ | refine ⟨(by show (0 : Int) < _; decide), ?_⟩ | refine ⟨⟨by decide, by decide⟩, ?_⟩))
    refine ite2 (fun c => ?_) (fun c => ?_)
    · have c' : i < g i := by have := of_decide_eq_true c; omega
      (repeat (first | refine ⟨_, rfl, ?_⟩ | refine ⟨_, _, rfl, rfl, ?_⟩ | refine ⟨rfl, ?_⟩ | refine ⟨_, _, rfl, .inl (by assumption), ?_⟩ | refine ⟨Or.inl ⟨by decide, by decide⟩, ?_⟩ | refine ⟨(by show (0 : Int) < _; decide), ?_⟩ | refine ⟨⟨by decide, by decide⟩, ?_⟩))
      refine ⟨.inl ⟨rfl, _, SqL.of hw'⟩, ?_⟩
      (repeat (first | refine ⟨_, rfl, ?_⟩ | refine ⟨_, _, rfl, rfl, ?_⟩ | refine ⟨rfl, ?_⟩ | refine ⟨_, _, rfl, .inl (by assumption), ?_⟩ | refine ⟨Or.inl ⟨by decide, by decide⟩, ?_⟩ | refine ⟨(by show (0 : Int) < _; decide), ?_⟩ | refine ⟨⟨by decide, by decide⟩, ?_⟩))
      refine ⟨l, _, _, rfl, rfl, hw', ?_, ?_⟩
      · rw [List.length_map]
        have : (opens g i).length ≤ i := by
          have := List.length_filter_le (fun j => decide (i ≤ g j)) (List.range i)
          rw [List.length_range] at this
          exact this
        exact small1000 (by omega)
      · refine ⟨S2.upd hlN _, ?_, ⟨_, _, rfl⟩, fun t ht hgt => ?_⟩
        · rw [upd_same, opens_push (fun j hj e => by rw [← e, hP.back j (by omega)]) c', List.map_append]
          rfl
        · by_cases z : t = i
          · subst z; omega
          · exact hb t (by omega) hgt
    · have c' : g i < i := by
        have h1 : ¬ (i : Int) < g i := fun z => c (decide_eq_true z)
        have h2 := hP.ne i hi
        omega
      obtain ⟨S, t, hSt⟩ := mem_last hP hi c'
      (repeat (first | refine ⟨_, rfl, ?_⟩ | refine ⟨_, _, rfl, rfl, ?_⟩ | refine ⟨rfl, ?_⟩ | refine ⟨_, _, rfl, .inl (by assumption), ?_⟩ | refine ⟨Or.inl ⟨by decide, by decide⟩, ?_⟩ | refine ⟨(by show (0 : Int) < _; decide), ?_⟩ | refine ⟨⟨by decide, by decide⟩, ?_⟩))
      refine ⟨.inl ⟨rfl, _, SqL.of hw'⟩, ?_⟩
      refine ⟨l, _, .int t, rfl, rfl, hw', ?_, ?_⟩
      · rw [hSt]; simp
      (repeat (first | refine ⟨_, rfl, ?_⟩ | refine ⟨_, _, rfl, rfl, ?_⟩ | refine ⟨rfl, ?_⟩ | refine ⟨_, _, rfl, .inl (by assumption), ?_⟩ | refine ⟨Or.inl ⟨by decide, by decide⟩, ?_⟩ | refine ⟨(by show (0 : Int) < _; decide), ?_⟩ | refine ⟨⟨by decide, by decide⟩, ?_⟩))
      refine ite2 (fun d => ?_) (fun d => ?_)
      · have d' : t ≠ g i := fun z => by rw [z] at d; simp at d
        exact toB (q _ (S2.upd hlN _)) (by
          cases e : noCrossM (tab n g) with
          | false => rfl
          | true => exact absurd (noCross_tab.mp e) (cross_found hP hi c' hSt d'))
      · have d' : t = g i := by
          by_cases z : t = g i
          · exact z
          · exfalso
            apply d
            simp
            omega
        have hlast : (opens g i).getLast? = some (g i) := by rw [hSt, d']; simp
        refine ⟨S2.upd hlN _, ?_, ⟨_, _, rfl⟩, fun t' ht hgt => ?_⟩
        · rw [upd_same, opens_pop (hP.iffk hi) c' hlast, List.map_dropLast]
        · by_cases z : t' = i
          · rw [z]; exact hlast
          · exact hb t' (by omega) hgt
  · rintro σ H' ⟨S1, hw, _, hb⟩
    rw [List.length_map, tab_length] at hb
    exact toB (q H' S1) (noCross_tab.mpr (no_cross_end hP hb))

def sp_is_arcs (K : PySem.W.Frag) : Sp := fun vs H Q _ => ∃ (a : Addr) (xs : List Int), vs = [.ref a] ∧ SqL K H a (xs.map V.int) ∧ xs.length ≤ 1000 ∧ ∀ H', Same H H' → Q (.bl (isArcsM xs)) H'
theorem ok_is_arcs (F : FunD K "is_arcs" "is_arcs" s_is_arcs dV f fd) (c_is_length : Fn P w K mg base CX0 "is_length" ["bridges"] [] 1 sp_is_length) (c_all_lead_back : Fn P w K mg base CX0 "all_lead_back" ["some"] [] 2 (sp_all_lead_back K)) (c_none_cross : Fn P w K mg base CX0 "none_cross" ["some"] [] 1 (sp_none_cross K)) (mlen : mg "len" = none) : FnOk P w K mg base CX0 3 f fd ["some"] (sp_is_arcs K) := by
  refine F.ok (k := 2) sc_is_arcs (fun vs H Q E h => ?_) (fun cdv A outer s H vs Q E hr h => ?_)
  · obtain ⟨_, _, rfl, _⟩ := h; rfl
  obtain ⟨a, xs, rfl, hS, hz, q⟩ := h
  have nd := sc_is_arcs.nd
  refine ⟨_, (pss_one (ps_ret (pe_and (pe_fn c_is_length hr (by decide) rfl (pa_cons (pe_callB call_len_seq rfl mlen PySem.boot_len (pa_cons (pv 0) pa_nil)) pa_nil)) (pe_and (pe_fn c_all_lead_back hr (by decide) rfl (pa_cons (pv 0) pa_nil)) (pe_one (pe_fn c_none_cross hr (by decide) rfl (pa_cons (pv 0) pa_nil))))))), ?_⟩
  have hl : (xs.map V.int).length = xs.length := List.length_map _
  have q' : ∀ H', Same H H' → Q (.bl (isLenM xs.length && (allBackM xs && noCrossM xs))) H' := q
  (repeat (first | refine ⟨_, rfl, ?_⟩ | refine ⟨_, _, rfl, rfl, ?_⟩ | refine ⟨rfl, ?_⟩ | refine ⟨_, _, rfl, .inl (by assumption), ?_⟩ | refine ⟨Or.inl ⟨by decide, by decide⟩, ?_⟩ | refine ⟨(by show (0 : Int) < _; decide), ?_⟩ | refine ⟨⟨by decide, by decide⟩, ?_⟩))
  rw [hl]
  cases e1 : isLenM xs.length with
  | false => rw [e1] at q'; exact iteF (q' H (Same.refl H))
  | true =>
    rw [e1] at q'
    refine iteT ?_
    (repeat (first | refine ⟨_, rfl, ?_⟩ | refine ⟨_, _, rfl, rfl, ?_⟩ | refine ⟨rfl, ?_⟩ | refine ⟨_, _, rfl, .inl (by assumption), ?_⟩ | refine ⟨Or.inl ⟨by decide, by decide⟩, ?_⟩ | refine ⟨(by show (0 : Int) < _; decide), ?_⟩ | refine ⟨⟨by decide, by decide⟩, ?_⟩))
    refine ⟨a, xs, rfl, hS, hz, ?_⟩
    (repeat (first | refine ⟨_, rfl, ?_⟩ | refine ⟨_, _, rfl, rfl, ?_⟩ | refine ⟨rfl, ?_⟩ | refine ⟨_, _, rfl, .inl (by assumption), ?_⟩ | refine ⟨Or.inl ⟨by decide, by decide⟩, ?_⟩ | refine ⟨(by show (0 : Int) < _; decide), ?_⟩ | refine ⟨⟨by decide, by decide⟩, ?_⟩))
    cases e2 : allBackM xs with
    | false => rw [e2] at q'; exact iteF (q' H (Same.refl H))
    | true =>
      rw [e2] at q'
      obtain ⟨g, eg, hP⟩ := allBack_of e2
      refine iteT ?_
      (repeat (first | refine ⟨_, rfl, ?_⟩ | refine ⟨_, _, rfl, rfl, ?_⟩ | refine ⟨rfl, ?_⟩ | refine ⟨_, _, rfl, .inl (by assumption), ?_⟩ | refine ⟨Or.inl ⟨by decide, by decide⟩, ?_⟩ | refine ⟨(by show (0 : Int) < _; decide), ?_⟩ | refine ⟨⟨by decide, by decide⟩, ?_⟩))
      refine ⟨a, xs.length, g, rfl, by rw [← eg]; exact hS, hz, hP, fun H' S' => ?_⟩
      rw [← eg]
      exact q' H' S'

def sp_refuse_no_arcs (K : PySem.W.Frag) : Sp := fun vs H Q _ => ∃ (a : Addr) (xs : List Int) (c : Str), vs = [.ref a, .str c] ∧ SqL K H a (xs.map V.int) ∧ isArcsM xs = true ∧ ∀ H', Same H H' → Q .non H'
theorem ok_refuse_no_arcs (F : FunD K "refuse_no_arcs" "refuse_no_arcs" s_refuse_no_arcs dV f fd) (c_is_arcs : Fn P w K mg base CX0 "is_arcs" ["some"] [] 3 (sp_is_arcs K)) : FnOk P w K mg base CX0 4 f fd ["some", "called"] (sp_refuse_no_arcs K) := by
  refine F.ok (k := 3) sc_refuse_no_arcs (fun vs H Q E h => ?_) (fun cdv A outer s H vs Q E hr h => ?_)
  · obtain ⟨_, _, _, rfl, _⟩ := h; rfl
  obtain ⟨a, xs, c, rfl, hS, hA, q⟩ := h
  have nd := sc_refuse_no_arcs.nd
  refine ⟨_, (pss_one (ps_if (pt_not (pt_val (pe_fn c_is_arcs hr (by decide) rfl (pa_cons (pv 0) pa_nil)))) pss_never pss_nil)), ?_⟩
  have hz : xs.length ≤ 1000 := by obtain ⟨_, _, _, _, _, h⟩ := isArcs_of hA; omega
  (repeat (first | refine ⟨_, rfl, ?_⟩ | refine ⟨_, _, rfl, rfl, ?_⟩ | refine ⟨rfl, ?_⟩ | refine ⟨_, _, rfl, .inl (by assumption), ?_⟩ | refine ⟨Or.inl ⟨by decide, by decide⟩, ?_⟩ | refine ⟨(by show (0 : Int) < _; decide), ?_⟩ | refine ⟨⟨by decide, by decide⟩, ?_⟩))
  refine ⟨a, xs, rfl, hS, hz, fun H' S' => ?_⟩
  (repeat (first | refine ⟨_, rfl, ?_⟩ | refine ⟨_, _, rfl, rfl, ?_⟩ | refine ⟨rfl, ?_⟩ | refine ⟨_, _, rfl, .inl (by assumption), ?_⟩ | refine ⟨Or.inl ⟨by decide, by decide⟩, ?_⟩ | refine ⟨(by show (0 : Int) < _; decide), ?_⟩ | refine ⟨⟨by decide, by decide⟩, ?_⟩))
  rw [hA]
  exact iteF (q H' S')

def sp_refuse_no_rows (K : PySem.W.Frag) : Sp := fun vs H Q _ => ∃ (a b : Addr) (xs ys : List Int), vs = [.ref a, .ref b] ∧ SqL K H a (xs.map V.int) ∧ SqL K H b (ys.map V.int) ∧ isArcsM xs = true ∧ isArcsM ys = true ∧ ∀ H', Same H H' → Q .non H'
theorem ok_refuse_no_rows (F : FunD K "refuse_no_rows" "refuse_no_rows" s_refuse_no_rows dV f fd) (cc_refuse_no_arcs : Fn P w K mg base CX0 "refuse_no_arcs" ["some", "called"] [] 4 (sp_refuse_no_arcs K)) : FnOk P w K mg base CX0 5 f fd ["one", "other"] (sp_refuse_no_rows K) := by
  refine F.ok (k := 4) sc_refuse_no_rows (fun vs H Q E h => ?_) (fun cdv A outer s H vs Q E hr h => ?_)
  · obtain ⟨_, _, _, _, rfl, _⟩ := h; rfl
  obtain ⟨a, b, xs, ys, rfl, hA, hB, hx, hy, q⟩ := h
  have nd := sc_refuse_no_rows.nd
  refine ⟨_, (pss_cons (ps_expr (pe_fn cc_refuse_no_arcs hr (by decide) rfl (pa_cons (pv 0) (pa_cons pe_str pa_nil))))
  (pss_one (ps_expr (pe_fn cc_refuse_no_arcs hr (by decide) rfl (pa_cons (pv 1) (pa_cons pe_str pa_nil)))))), ?_⟩
  (repeat (first | refine ⟨_, rfl, ?_⟩ | refine ⟨_, _, rfl, rfl, ?_⟩ | refine ⟨rfl, ?_⟩ | refine ⟨_, _, rfl, .inl (by assumption), ?_⟩ | refine ⟨Or.inl ⟨by decide, by decide⟩, ?_⟩ | refine ⟨(by show (0 : Int) < _; decide), ?_⟩ | refine ⟨⟨by decide, by decide⟩, ?_⟩))
  refine ⟨a, xs, _, rfl, hA, hx, fun H1 S1 => ?_⟩
  (repeat (first | refine ⟨_, rfl, ?_⟩ | refine ⟨_, _, rfl, rfl, ?_⟩ | refine ⟨rfl, ?_⟩ | refine ⟨_, _, rfl, .inl (by assumption), ?_⟩ | refine ⟨Or.inl ⟨by decide, by decide⟩, ?_⟩ | refine ⟨(by show (0 : Int) < _; decide), ?_⟩ | refine ⟨⟨by decide, by decide⟩, ?_⟩))
  exact ⟨b, ys, _, rfl, S1.seq hB, hy, fun H2 S2 => q H2 (S1.trans S2)⟩

def sp_refuse_unlike (K : PySem.W.Frag) : Sp := fun vs H Q _ => ∃ (a b : Addr) (xs ys : List Int), vs = [.ref a, .ref b] ∧ SqL K H a (xs.map V.int) ∧ SqL K H b (ys.map V.int) ∧ isArcsM xs = true ∧ isArcsM ys = true ∧ xs.length = ys.length ∧ ∀ H', Same H H' → Q .non H'
theorem ok_refuse_unlike (F : FunD K "refuse_unlike" "refuse_unlike" s_refuse_unlike dV f fd) (c_refuse_no_rows : Fn P w K mg base CX0 "refuse_no_rows" ["one", "other"] [] 5 (sp_refuse_no_rows K)) (mlen : mg "len" = none) : FnOk P w K mg base CX0 6 f fd ["one", "other"] (sp_refuse_unlike K) := by
  refine F.ok (k := 5) sc_refuse_unlike (fun vs H Q E h => ?_) (fun cdv A outer s H vs Q E hr h => ?_)
  · obtain ⟨_, _, _, _, rfl, _⟩ := h; rfl
  obtain ⟨a, b, xs, ys, rfl, hA, hB, hx, hy, hl, q⟩ := h
  have nd := sc_refuse_unlike.nd
  refine ⟨_, (pss_cons (ps_expr (pe_fn c_refuse_no_rows hr (by decide) rfl (pa_cons (pv 0) (pa_cons (pv 1) pa_nil))))
  (pss_one (ps_if (pt_cmpR op_ne (pe_callB call_len_seq rfl mlen PySem.boot_len (pa_cons (pv 0) pa_nil)) (pe_callB call_len_seq rfl mlen PySem.boot_len (pa_cons (pv 1) pa_nil)) (nomark _)) pss_never pss_nil))), ?_⟩
  (repeat (first | refine ⟨_, rfl, ?_⟩ | refine ⟨_, _, rfl, rfl, ?_⟩ | refine ⟨rfl, ?_⟩ | refine ⟨_, _, rfl, .inl (by assumption), ?_⟩ | refine ⟨Or.inl ⟨by decide, by decide⟩, ?_⟩ | refine ⟨(by show (0 : Int) < _; decide), ?_⟩ | refine ⟨⟨by decide, by decide⟩, ?_⟩))
  refine ⟨a, b, xs, ys, rfl, hA, hB, hx, hy, fun H1 S1 => ?_⟩
  have hA1 := S1.seq hA
  have hB1 := S1.seq hB
  (repeat (first | refine ⟨_, rfl, ?_⟩ | refine ⟨_, _, rfl, rfl, ?_⟩ | refine ⟨rfl, ?_⟩ | refine ⟨_, _, rfl, .inl (by assumption), ?_⟩ | refine ⟨Or.inl ⟨by decide, by decide⟩, ?_⟩ | refine ⟨(by show (0 : Int) < _; decide), ?_⟩ | refine ⟨⟨by decide, by decide⟩, ?_⟩))
  refine ite2 (fun y => ?_) (fun _ => ?_)
  · exfalso
    rw [List.length_map, List.length_map, hl] at y
    simp at y
  · exact q H1 S1

def sp_in_one_row (K : PySem.W.Frag) : Sp := fun vs H Q _ => ∃ (a b : Addr) (n m : Nat) (g k : Nat → Nat), vs = [.ref a, .ref b] ∧ H a = some (.lst ((tab n g).map V.int)) ∧ SqL K H b ((tab m k).map V.int) ∧ n + m ≤ 1000 ∧
  ∀ (r : Addr) (H' : Hp), Same H H' → H r = none → H' r = some (.lst ((tab (n + m) (sideF n g k)).map V.int)) → Q (.ref r) H'
theorem ok_in_one_row (F : FunD K "in_one_row" "in_one_row" s_in_one_row dV f fd) (mlen : mg "len" = none) : FnOk P w K mg base CX0 1 f fd ["one", "other"] (sp_in_one_row K) := by
  refine F.ok (k := 0) sc_in_one_row (fun vs H Q E h => ?_) (fun cdv A outer s H vs Q E hr h => ?_)
  · obtain ⟨_, _, _, _, _, _, rfl, _⟩ := h; rfl
  obtain ⟨a, b, n, m, g, k, rfl, hA0, hB0, h1, q⟩ := h
  have nd := sc_in_one_row.nd
  refine ⟨_, (pss_one (ps_ret (pe_op op_cat (pv 0) (pe_comp (compOk (N' := ["there", "one"]) (js := [none, some 0]) (N := ["one", "other"]) (sc := defScope s_in_one_row) rfl rfl rfl (by decide +kernel) (by decide +kernel) (by decide +kernel) rfl (by decide +kernel)) rfl (pi_list (pv 1)) (fun _ _ _ _ _ => (pg_name (i := 0) (show [("there" : PySem.Str), ("one" : PySem.Str)].Nodup by decide +kernel) rfl (Or.inl rfl))) (fun _ _ _ _ _ => pf_nil) (fun _ _ _ _ _ => (pe_op op_add (pe_callB (call_len_seqK (K := K) rfl) rfl mlen PySem.boot_len (pa_cons (pv 1) pa_nil)) (pv 0))))))), ?_⟩
  have hl : ((tab n g).map V.int).length = n := by rw [List.length_map, tab_length]
  have hl2 : ((tab m k).map V.int).length = m := by rw [List.length_map, tab_length]
  (repeat (first | refine ⟨_, rfl, ?_⟩ | refine ⟨_, _, rfl, rfl, ?_⟩ | refine ⟨rfl, ?_⟩ | refine ⟨_, _, rfl, .inl (by assumption), ?_⟩ | refine ⟨Or.inl ⟨by decide, by decide⟩, ?_⟩ | refine ⟨(by show (0 : Int) < _; decide), ?_⟩ | refine ⟨⟨by decide, by decide⟩, ?_⟩))
  refine ⟨⟨_, hB0⟩, fun p hp => ?_⟩
  refine comp_all m (fun i => .int ((n : Int) + (k i : Nat))) (fun σ => ∃ u, σ = [u, some (.ref a)]) (small60 (by omega)) ⟨_, rfl⟩ hp (fun i H' hi S' => ⟨_, _, S'.seq hB0, by rw [List.getElem?_map, tab_get hi]; rfl⟩) (fun H' S' => ⟨_, S'.seq hB0, by rw [hl2]; exact Nat.le_refl _⟩) ?_ ?_
  · rintro i x σ' H' H3 kk hi ⟨u, rfl⟩ S' ⟨rfl, hx⟩ hk
    have hx' := hx _ (S'.seq hB0)
    rw [List.getElem?_map, tab_get hi] at hx'
    have ex : x = .int (k i : Nat) := (Option.some.inj hx').symm
    subst ex
    have hA3 : SqL K H3 a ((tab n g).map V.int) := S'.seq (SqL.of hA0)
    (repeat (first | refine ⟨_, rfl, ?_⟩ | refine ⟨_, _, rfl, rfl, ?_⟩ | refine ⟨rfl, ?_⟩ | refine ⟨_, _, rfl, .inl (by assumption), ?_⟩ | refine ⟨Or.inl ⟨by decide, by decide⟩, ?_⟩ | refine ⟨(by show (0 : Int) < _; decide), ?_⟩ | refine ⟨⟨by decide, by decide⟩, ?_⟩))
    rw [hl]
    exact hk _ _ _ ⟨_, rfl⟩ rfl (Same.refl _)
  · intro H' S' hl'
    refine ⟨a, p, _, _, rfl, rfl, S' _ _ hA0, hl', by rw [hl]; exact small60 (by simp; omega), fun r hr' => ?_⟩
    refine q r _ (S'.trans (same_upd_new hr' _)) (S'.free hr') ?_
    rw [upd_same]
    congr 2
    apply List.ext_getElem?
    intro i
    rw [List.getElem?_map]
    by_cases c1 : i < n
    · rw [List.getElem?_append_left (by rw [hl]; exact c1), List.getElem?_map, tab_get c1, tab_get (by omega)]
      unfold sideF
      rw [if_pos c1]
    · rw [List.getElem?_append_right (by rw [hl]; omega), hl]
      by_cases c2 : i < n + m
      · rw [tab_get c2, List.getElem?_map, List.getElem?_range (by omega)]
        unfold sideF
        rw [if_neg c1]
        show some (V.int _) = some (V.int _)
        congr 2
      · rw [List.getElem?_eq_none (by simp; omega), List.getElem?_eq_none (by rw [tab_length]; omega)]
        rfl

def sp_is_end (K : PySem.W.Frag) : Sp := fun vs H Q _ => ∃ (r : Addr) (n : Nat) (c : Nat → Nat) (x : Nat), vs = [.ref r, .int x] ∧ SqL K H r ((tab (4 * n) c).map V.int) ∧ Q (.bl (endB n x)) H
theorem ok_is_end (F : FunD K "is_end" "is_end" s_is_end dV f fd) (mlen : mg "len" = none) : FnOk P w K mg base CX0 1 f fd ["both", "bridge"] (sp_is_end K) := by
  refine F.ok (k := 0) sc_is_end (fun vs H Q E h => ?_) (fun cdv A outer s H vs Q E hr h => ?_)
  · obtain ⟨_, _, _, _, rfl, _⟩ := h; rfl
  obtain ⟨r, n, c, x, rfl, hS, q⟩ := h
  have nd := sc_is_end.nd
  refine ⟨_, (pss_cons (ps_set (i := 2) nd rfl (Or.inl rfl) (pe_op op_fdiv (pe_callB call_len_seq rfl mlen PySem.boot_len (pa_cons (pv 0) pa_nil)) pe_int))
  (pss_one (ps_ret (pe_or (pe_cmpR op_lt (pv 1) (pv 2) (nomark _)) (pe_one (pe_cmpR op_ge (pv 1) (pe_op op_mul pe_int (pv 2)) (nomark _))))))), ?_⟩
  have hl : ((tab (4 * n) c).map V.int).length = 4 * n := by rw [List.length_map, tab_length]
  (repeat (first | refine ⟨_, rfl, ?_⟩ | refine ⟨_, _, rfl, rfl, ?_⟩ | refine ⟨rfl, ?_⟩ | refine ⟨_, _, rfl, .inl (by assumption), ?_⟩ | refine ⟨Or.inl ⟨by decide, by decide⟩, ?_⟩ | refine ⟨(by show (0 : Int) < _; decide), ?_⟩ | refine ⟨⟨by decide, by decide⟩, ?_⟩))
  rw [hl]
  have e : ((4 * n : Nat) : Int) / 4 = (n : Int) := by omega
  rw [e]
  (repeat (first | refine ⟨_, rfl, ?_⟩ | refine ⟨_, _, rfl, rfl, ?_⟩ | refine ⟨rfl, ?_⟩ | refine ⟨_, _, rfl, .inl (by assumption), ?_⟩ | refine ⟨Or.inl ⟨by decide, by decide⟩, ?_⟩ | refine ⟨(by show (0 : Int) < _; decide), ?_⟩ | refine ⟨⟨by decide, by decide⟩, ?_⟩))
  refine ite2 (fun y => ?_) (fun y => ?_)
  · refine toB q ?_
    unfold endB
    have := of_decide_eq_true y
    simp
    omega
  · (repeat (first | refine ⟨_, rfl, ?_⟩ | refine ⟨_, _, rfl, rfl, ?_⟩ | refine ⟨rfl, ?_⟩ | refine ⟨_, _, rfl, .inl (by assumption), ?_⟩ | refine ⟨Or.inl ⟨by decide, by decide⟩, ?_⟩ | refine ⟨(by show (0 : Int) < _; decide), ?_⟩ | refine ⟨⟨by decide, by decide⟩, ?_⟩))
    refine toB q ?_
    unfold endB
    have y' : ¬ (x : Int) < (n : Int) := fun z => y (decide_eq_true z)
    rw [decide_eq_false (show ¬ x < n by omega), Bool.false_or]
    exact decide_eq_decide.mpr (by omega)

def sp_way_from (K : PySem.W.Frag) : Sp := fun vs H Q _ => ∃ (r : Addr) (n : Nat) (c : Nat → Nat) (x : Nat), vs = [.ref r, .int x] ∧ SqL K H r ((tab (4 * n) c).map V.int) ∧ Pairs (4 * n) c ∧ x < 4 * n ∧ n ≤ 100 ∧
  ∀ (l : Addr) (H' : Hp), Same H H' → H l = none → H' l = some (.lst ((ni (way c (sm n) x)).map V.int)) → Q (.ref l) H'
theorem ok_way_from (F : FunD K "way_from" "way_from" s_way_from dV f fd) (c_is_end : Fn P w K mg base CX0 "is_end" ["both", "bridge"] [] 1 (sp_is_end K)) (mlen : mg "len" = none) : FnOk P w K mg base CX0 2 f fd ["both", "first"] (sp_way_from K) := by
  refine F.ok (k := 1) sc_way_from (fun vs H Q E h => ?_) (fun cdv A outer s H vs Q E hr h => ?_)
  · obtain ⟨_, _, _, _, rfl, _⟩ := h; rfl
  obtain ⟨r, n, a, x, rfl, hS, hA, hx, hn, qq⟩ := h
  have nd := sc_way_from.nd
  refine ⟨_, (pss_cons (ps_set (i := 2) nd rfl (Or.inl rfl) (pe_op op_sub (pe_callB call_len_seq rfl mlen PySem.boot_len (pa_cons (pv 0) pa_nil)) pe_int))
  (pss_cons (ps_set (i := 3) nd rfl (Or.inl rfl) (pe_lst (pa_cons (pv 1) (pa_cons (pe_ix ix_list (pv 0) (pv 1) (fun _ _ => rfl)) pa_nil))))
  (pss_cons (ps_while PassesOwn.never (PW.pt (pw_and (pt_not (pt_val (pe_fn c_is_end hr (by decide) rfl (pa_cons (pv 0) (pa_cons (pe_ix ix_list (pv 3) (pe_un un_neg pe_int) (fun _ _ => rfl)) pa_nil))))) (pw_and1 (pt_cmpR op_ne (pe_op op_sub (pv 2) (pe_ix ix_list (pv 3) (pe_un un_neg pe_int) (fun _ _ => rfl))) (pv 1) (nomark _))))) (pss_cons (ps_expr (pe_bm PySem.F.plainAttrs_list PySem.F.slot_list_append PySem.F.type_list_append mt_append (pv 3) (pa_cons (pe_op op_sub (pv 2) (pe_ix ix_list (pv 3) (pe_un un_neg pe_int) (fun _ _ => rfl))) pa_nil)))
  (pss_one (ps_expr (pe_bm PySem.F.plainAttrs_list PySem.F.slot_list_append PySem.F.type_list_append mt_append (pv 3) (pa_cons (pe_ix ix_list (pv 0) (pe_ix ix_list (pv 3) (pe_un un_neg pe_int) (fun _ _ => rfl)) (fun _ _ => rfl)) pa_nil))))))
  (pss_one (ps_ret (pv 3)))))), ?_⟩
  have hl0 : ((tab (4 * n) a).map V.int).length = 4 * n := by rw [List.length_map, tab_length]
  have la : ∀ {y : Nat}, y < 4 * n → atI ((tab (4 * n) a).map V.int) (y : Int) = some (.int (a y : Nat)) := fun {y} hy => atI_int (by omega) (by rw [Int.toNat_natCast]; exact tab_get hy)
  have B := sm_invo n
  have St := stopAt_spec hA B hx
  have lt := itr_lt hA B hx
  have hst := stopAt_lt hA B hx
  (repeat (first | refine ⟨_, rfl, ?_⟩ | refine ⟨_, _, rfl, rfl, ?_⟩ | refine ⟨rfl, ?_⟩ | refine ⟨_, _, rfl, .inl (by assumption), ?_⟩ | refine ⟨Or.inl ⟨by decide, by decide⟩, ?_⟩ | refine ⟨(by show (0 : Int) < _; decide), ?_⟩ | refine ⟨⟨by decide, by decide⟩, ?_⟩))
  rw [hl0]
  (repeat (first | refine ⟨_, rfl, ?_⟩ | refine ⟨_, _, rfl, rfl, ?_⟩ | refine ⟨rfl, ?_⟩ | refine ⟨_, _, rfl, .inl (by assumption), ?_⟩ | refine ⟨Or.inl ⟨by decide, by decide⟩, ?_⟩ | refine ⟨(by show (0 : Int) < _; decide), ?_⟩ | refine ⟨⟨by decide, by decide⟩, ?_⟩))
  refine ⟨r, _, _, _, rfl, rfl, hS, la hx, ?_⟩
  (repeat (first | refine ⟨_, rfl, ?_⟩ | refine ⟨_, _, rfl, rfl, ?_⟩ | refine ⟨rfl, ?_⟩ | refine ⟨_, _, rfl, .inl (by assumption), ?_⟩ | refine ⟨Or.inl ⟨by decide, by decide⟩, ?_⟩ | refine ⟨(by show (0 : Int) < _; decide), ?_⟩ | refine ⟨⟨by decide, by decide⟩, ?_⟩))
  refine ⟨(by show 2 ≤ sizeLine; decide), fun l hl => ?_⟩
  have S0 := same_upd_new hl (.lst [.int (x : Nat), .int (a x : Nat)])
  (repeat (first | refine ⟨_, rfl, ?_⟩ | refine ⟨_, _, rfl, rfl, ?_⟩ | refine ⟨rfl, ?_⟩ | refine ⟨_, _, rfl, .inl (by assumption), ?_⟩ | refine ⟨Or.inl ⟨by decide, by decide⟩, ?_⟩ | refine ⟨(by show (0 : Int) < _; decide), ?_⟩ | refine ⟨⟨by decide, by decide⟩, ?_⟩))
  refine ⟨fun m σ H' => ∃ i, i ≤ stopAt a (sm n) x ∧ m = stopAt a (sm n) x - i ∧ Same H H' ∧ H' l = some (.lst ((ni (wayL a (sm n) x (i + 1))).map V.int)) ∧ σ = [some (.ref r), some (.int x), some (.int (((4 * n : Nat) : Int) - 1)), some (.ref l)], ⟨_, 0, Nat.zero_le _, rfl, S0, upd_same, rfl⟩, ?_⟩
  rintro m σ H1 ⟨i, hi, rfl, S1, h1, rfl⟩
  have hz := hA.lt _ (lt i)
  have done : (sm n (a (itr a (sm n) x i)) = a (itr a (sm n) x i) ∨ sm n (a (itr a (sm n) x i)) = x) → i = stopAt a (sm n) x := fun h => by
    rcases Nat.lt_or_ge i (stopAt a (sm n) x) with z | z
    · rcases h with h | h
      · exact absurd h (St.go i z).1
      · exact absurd h (St.go i z).2
    · omega
  have h1' : SqL K H1 l ((ni (wayL a (sm n) x i ++ [itr a (sm n) x i])).map V.int ++ [.int (a (itr a (sm n) x i) : Nat)]) := by rw [← wayL_split]; exact SqL.of h1
  have hf : H1 l = some (.lst ((ni (wayL a (sm n) x (i + 1))).map V.int)) := h1
  (repeat (first | refine ⟨_, rfl, ?_⟩ | refine ⟨_, _, rfl, rfl, ?_⟩ | refine ⟨rfl, ?_⟩ | refine ⟨_, _, rfl, .inl (by assumption), ?_⟩ | refine ⟨Or.inl ⟨by decide, by decide⟩, ?_⟩ | refine ⟨(by show (0 : Int) < _; decide), ?_⟩ | refine ⟨⟨by decide, by decide⟩, ?_⟩))
  refine ⟨l, _, _, _, rfl, rfl, h1', atI_last _ _, ?_⟩
  (repeat (first | refine ⟨_, rfl, ?_⟩ | refine ⟨_, _, rfl, rfl, ?_⟩ | refine ⟨rfl, ?_⟩ | refine ⟨_, _, rfl, .inl (by assumption), ?_⟩ | refine ⟨Or.inl ⟨by decide, by decide⟩, ?_⟩ | refine ⟨(by show (0 : Int) < _; decide), ?_⟩ | refine ⟨⟨by decide, by decide⟩, ?_⟩))
  refine ⟨r, n, a, a (itr a (sm n) x i), rfl, S1.seq hS, ?_⟩
  (repeat (first | refine ⟨_, rfl, ?_⟩ | refine ⟨_, _, rfl, rfl, ?_⟩ | refine ⟨rfl, ?_⟩ | refine ⟨_, _, rfl, .inl (by assumption), ?_⟩ | refine ⟨Or.inl ⟨by decide, by decide⟩, ?_⟩ | refine ⟨(by show (0 : Int) < _; decide), ?_⟩ | refine ⟨⟨by decide, by decide⟩, ?_⟩))
  cases eb : endB n (a (itr a (sm n) x i)) with
  | true =>
    (try refine iteF ?_)
    (repeat (first | refine ⟨_, rfl, ?_⟩ | refine ⟨_, _, rfl, rfl, ?_⟩ | refine ⟨rfl, ?_⟩ | refine ⟨_, _, rfl, .inl (by assumption), ?_⟩ | refine ⟨Or.inl ⟨by decide, by decide⟩, ?_⟩ | refine ⟨(by show (0 : Int) < _; decide), ?_⟩ | refine ⟨⟨by decide, by decide⟩, ?_⟩))
    (try refine iteF ?_)
    have ei := done (.inl (sm_fix.mpr (endB_iff.mp eb)))
    subst ei
    exact qq l H1 S1 hl h1
  | false =>
    (try refine iteT ?_)
    have es := sm_in (endB_no.mp eb)
    have nn := endB_no.mp eb
    (repeat (first | refine ⟨_, rfl, ?_⟩ | refine ⟨_, _, rfl, rfl, ?_⟩ | refine ⟨rfl, ?_⟩ | refine ⟨_, _, rfl, .inl (by assumption), ?_⟩ | refine ⟨Or.inl ⟨by decide, by decide⟩, ?_⟩ | refine ⟨(by show (0 : Int) < _; decide), ?_⟩ | refine ⟨⟨by decide, by decide⟩, ?_⟩))
    refine ⟨l, _, _, _, rfl, rfl, h1', atI_last _ _, ?_⟩
    (repeat (first | refine ⟨_, rfl, ?_⟩ | refine ⟨_, _, rfl, rfl, ?_⟩ | refine ⟨rfl, ?_⟩ | refine ⟨_, _, rfl, .inl (by assumption), ?_⟩ | refine ⟨Or.inl ⟨by decide, by decide⟩, ?_⟩ | refine ⟨(by show (0 : Int) < _; decide), ?_⟩ | refine ⟨⟨by decide, by decide⟩, ?_⟩))
    have ee : ((4 * n : Nat) : Int) - 1 - ((a (itr a (sm n) x i) : Nat) : Int) = ((sm n (a (itr a (sm n) x i)) : Nat) : Int) := by rw [es]; omega
    refine ite2 (fun y => ?_) (fun y => ?_)
    · have y' : sm n (a (itr a (sm n) x i)) ≠ x := fun z => ne_yes y (by rw [ee, z])
      have hi' : i < stopAt a (sm n) x := by
        rcases Nat.lt_or_ge i (stopAt a (sm n) x) with z | z
        · exact z
        · exfalso
          have e : i = stopAt a (sm n) x := by omega
          rcases St.stop with q | q
          · rw [← e] at q
            exact nn (sm_fix.mp q)
          · rw [← e] at q
            exact y' q
      refine ⟨_, fun σ' H' h => h, ?_⟩
      (repeat (first | refine ⟨_, rfl, ?_⟩ | refine ⟨_, _, rfl, rfl, ?_⟩ | refine ⟨rfl, ?_⟩ | refine ⟨_, _, rfl, .inl (by assumption), ?_⟩ | refine ⟨Or.inl ⟨by decide, by decide⟩, ?_⟩ | refine ⟨(by show (0 : Int) < _; decide), ?_⟩ | refine ⟨⟨by decide, by decide⟩, ?_⟩))
      refine ⟨.inl ⟨rfl, _, SqL.of h1⟩, ?_⟩
      (repeat (first | refine ⟨_, rfl, ?_⟩ | refine ⟨_, _, rfl, rfl, ?_⟩ | refine ⟨rfl, ?_⟩ | refine ⟨_, _, rfl, .inl (by assumption), ?_⟩ | refine ⟨Or.inl ⟨by decide, by decide⟩, ?_⟩ | refine ⟨(by show (0 : Int) < _; decide), ?_⟩ | refine ⟨⟨by decide, by decide⟩, ?_⟩))
      refine ⟨l, _, _, _, rfl, rfl, h1', atI_last _ _, ?_⟩
      (repeat (first | refine ⟨_, rfl, ?_⟩ | refine ⟨_, _, rfl, rfl, ?_⟩ | refine ⟨rfl, ?_⟩ | refine ⟨_, _, rfl, .inl (by assumption), ?_⟩ | refine ⟨Or.inl ⟨by decide, by decide⟩, ?_⟩ | refine ⟨(by show (0 : Int) < _; decide), ?_⟩ | refine ⟨⟨by decide, by decide⟩, ?_⟩))
      dsimp only
      rw [ee]
      refine ⟨l, _, _, rfl, rfl, h1, ?_, ?_⟩
      · rw [ni_len, wayL_length]; exact small1000 (by omega)
      have S2 : Same H (upd H1 l (.lst ((ni (wayL a (sm n) x (i + 1))).map V.int ++ [.int (sm n (a (itr a (sm n) x i)) : Nat)]))) := S1.upd hl _
      (repeat (first | refine ⟨_, rfl, ?_⟩ | refine ⟨_, _, rfl, rfl, ?_⟩ | refine ⟨rfl, ?_⟩ | refine ⟨_, _, rfl, .inl (by assumption), ?_⟩ | refine ⟨Or.inl ⟨by decide, by decide⟩, ?_⟩ | refine ⟨(by show (0 : Int) < _; decide), ?_⟩ | refine ⟨⟨by decide, by decide⟩, ?_⟩))
      refine ⟨.inl ⟨rfl, _, SqL.of upd_same⟩, ?_⟩
      (repeat (first | refine ⟨_, rfl, ?_⟩ | refine ⟨_, _, rfl, rfl, ?_⟩ | refine ⟨rfl, ?_⟩ | refine ⟨_, _, rfl, .inl (by assumption), ?_⟩ | refine ⟨Or.inl ⟨by decide, by decide⟩, ?_⟩ | refine ⟨(by show (0 : Int) < _; decide), ?_⟩ | refine ⟨⟨by decide, by decide⟩, ?_⟩))
      refine ⟨l, _, _, _, rfl, rfl, SqL.of upd_same, atI_last _ _, ?_⟩
      (repeat (first | refine ⟨_, rfl, ?_⟩ | refine ⟨_, _, rfl, rfl, ?_⟩ | refine ⟨rfl, ?_⟩ | refine ⟨_, _, rfl, .inl (by assumption), ?_⟩ | refine ⟨Or.inl ⟨by decide, by decide⟩, ?_⟩ | refine ⟨(by show (0 : Int) < _; decide), ?_⟩ | refine ⟨⟨by decide, by decide⟩, ?_⟩))
      refine ⟨r, _, _, _, rfl, rfl, S2.seq hS, la (lt (i + 1)), ?_⟩
      (repeat (first | refine ⟨_, rfl, ?_⟩ | refine ⟨_, _, rfl, rfl, ?_⟩ | refine ⟨rfl, ?_⟩ | refine ⟨_, _, rfl, .inl (by assumption), ?_⟩ | refine ⟨Or.inl ⟨by decide, by decide⟩, ?_⟩ | refine ⟨(by show (0 : Int) < _; decide), ?_⟩ | refine ⟨⟨by decide, by decide⟩, ?_⟩))
      refine ⟨l, _, _, rfl, rfl, upd_same, ?_, ?_⟩
      · rw [List.length_append, ni_len, wayL_length]; exact small1000 (by simp; omega)
      refine ⟨stopAt a (sm n) x - (i + 1), by omega, i + 1, by omega, rfl, S2.upd hl _, ?_, rfl⟩
      rw [upd_same, show wayL a (sm n) x (i + 1 + 1) = wayL a (sm n) x (i + 1) ++ [itr a (sm n) x (i + 1), a (itr a (sm n) x (i + 1))] from rfl, nv_append]
      simp [ni]
      exact ⟨rfl, rfl⟩
    · have y' : sm n (a (itr a (sm n) x i)) = x := by have := ne_no y; rw [ee] at this; omega
      have ei := done (.inr y')
      subst ei
      (repeat (first | refine ⟨_, rfl, ?_⟩ | refine ⟨_, _, rfl, rfl, ?_⟩ | refine ⟨rfl, ?_⟩ | refine ⟨_, _, rfl, .inl (by assumption), ?_⟩ | refine ⟨Or.inl ⟨by decide, by decide⟩, ?_⟩ | refine ⟨(by show (0 : Int) < _; decide), ?_⟩ | refine ⟨⟨by decide, by decide⟩, ?_⟩))
      exact qq l H1 S1 hl h1

def sp_many_rings (K : PySem.W.Frag) : Sp := fun vs H Q _ => ∃ (r t : Addr) (n : Nat) (x y : Nat → Nat), vs = [.ref r, .ref t] ∧ SqL K H r ((tab (4 * n) (sideF (2 * n) x y)).map V.int) ∧ SqL K H t ((ni (endL n x y (2 * n))).map V.int) ∧ (endL n x y (2 * n)).length ≤ 100000 ∧ IsArcs (2 * n) x ∧ IsArcs (2 * n) y ∧ n ≤ 100 ∧
  ∀ (H' : Hp), Same H H' → Q (.int (rgs n x y : Nat)) H'
theorem nd_no {p : Prop} [Decidable p] (h : ¬ (!decide p) = true) : p := by simpa using h
theorem ok_many_rings (F : FunD K "many_rings" "many_rings" s_many_rings dV f fd) (c_way_from : Fn P w K mg base CX0 "way_from" ["both", "first"] [] 2 (sp_way_from K)) (mlen : mg "len" = none) (mlist : mg "list" = none) (mrange : mg "range" = none) : FnOk P w K mg base CX0 3 f fd ["both", "met"] (sp_many_rings K) := by
  refine F.ok (k := 2) sc_many_rings (fun vs H Q E h => ?_) (fun cdv A outer s H vs Q E hr h => ?_)
  · obtain ⟨_, _, _, _, _, rfl, _⟩ := h; rfl
  obtain ⟨r, t, n, x, y, rfl, hS, hT, hz, X, Y, hn, qq⟩ := h
  have nd := sc_many_rings.nd
  refine ⟨_, (pss_cons (ps_set (i := 2) nd rfl (Or.inl rfl) (pe_callTy call_list_of rfl mlist PyProof.Rows.boot_list (pa_cons (pv 1) pa_nil)))
  (pss_cons (ps_set (i := 3) nd rfl (Or.inl rfl) pe_int)
  (pss_cons (ps_for PassesOwn.never rfl (pi_range1 rfl mrange (pa_cons (pe_callB call_len_seq rfl mlen PySem.boot_len (pa_cons (pv 0) pa_nil)) pa_nil)) (pg_name (i := 4) nd rfl (Or.inl rfl)) (pss_one (ps_if (pt_cmpR op_notIn_seq (pv 4) (pv 2) (by with_unfolding_all rfl)) (pss_cons (ps_expr (pe_bm PySem.F.plainAttrs_list PySem.F.slot_list_extend PySem.F.type_list_extend mt_extend (pv 2) (pa_cons (pe_fn c_way_from hr (by decide) rfl (pa_cons (pv 0) (pa_cons (pv 4) pa_nil))) pa_nil)))
  (pss_one (ps_aug (i := 3) nd rfl (Or.inl rfl) pe_int ip_add))) pss_nil)))
  (pss_one (ps_ret (pv 3)))))), ?_⟩
  have hl0 : ((tab (4 * n) (sideF (2 * n) x y)).map V.int).length = 4 * n := by rw [List.length_map, tab_length]
  have A := both_pairs X Y
  have B := sm_invo n
  (repeat (first | refine ⟨_, rfl, ?_⟩ | refine ⟨_, _, rfl, rfl, ?_⟩ | refine ⟨rfl, ?_⟩ | refine ⟨_, _, rfl, .inl (by assumption), ?_⟩ | refine ⟨Or.inl ⟨by decide, by decide⟩, ?_⟩ | refine ⟨(by show (0 : Int) < _; decide), ?_⟩ | refine ⟨⟨by decide, by decide⟩, ?_⟩))
  (try refine ⟨t, _, rfl, .inl hT, ?_⟩)
  intro lk hlk
  have S0 := same_upd_new hlk (.lst ((ni (endL n x y (2 * n))).map V.int))
  have hS0 := S0.seq hS
  (repeat (first | refine ⟨_, rfl, ?_⟩ | refine ⟨_, _, rfl, rfl, ?_⟩ | refine ⟨rfl, ?_⟩ | refine ⟨_, _, rfl, .inl (by assumption), ?_⟩ | refine ⟨Or.inl ⟨by decide, by decide⟩, ?_⟩ | refine ⟨(by show (0 : Int) < _; decide), ?_⟩ | refine ⟨⟨by decide, by decide⟩, ?_⟩))
  rw [hl0]
  refine ⟨by omega, by omega, ?_⟩
  rw [Int.toNat_natCast]
  refine for_range (fun i σ H' => Same H H' ∧ H' lk = some (.lst ((ni (endL n x y (2 * n) ++ ((scan (way (sideF (2 * n) x y) (sm n)) (endL n x y (2 * n)) i).map (way (sideF (2 * n) x y) (sm n))).flatten)).map V.int)) ∧ (((scan (way (sideF (2 * n) x y) (sm n)) (endL n x y (2 * n)) i).map (way (sideF (2 * n) x y) (sm n))).flatten).length ≤ 800 * i ∧ ∃ v, σ = [some (.ref r), some (.ref t), some (.ref lk), some (.int ((scan (way (sideF (2 * n) x y) (sm n)) (endL n x y (2 * n)) i).length : Nat)), v]) ?_ ?_ ?_
  · refine ⟨S0, ?_, by simp [scan], _, rfl⟩
    rw [upd_same]
    simp [scan]
  · rintro i σ H1 hi ⟨S1, e1, z1, v, rfl⟩
    have e0 : (0 : Int) + (i : Int) = i := by omega
    rw [e0]
    (repeat (first | refine ⟨_, rfl, ?_⟩ | refine ⟨_, _, rfl, rfl, ?_⟩ | refine ⟨rfl, ?_⟩ | refine ⟨_, _, rfl, .inl (by assumption), ?_⟩ | refine ⟨Or.inl ⟨by decide, by decide⟩, ?_⟩ | refine ⟨(by show (0 : Int) < _; decide), ?_⟩ | refine ⟨⟨by decide, by decide⟩, ?_⟩))
    refine ⟨lk, _, rfl, .inl (SqL.of e1), rfl, flat_ints _, ?_⟩
    (repeat (first | refine ⟨_, rfl, ?_⟩ | refine ⟨_, _, rfl, rfl, ?_⟩ | refine ⟨rfl, ?_⟩ | refine ⟨_, _, rfl, .inl (by assumption), ?_⟩ | refine ⟨Or.inl ⟨by decide, by decide⟩, ?_⟩ | refine ⟨(by show (0 : Int) < _; decide), ?_⟩ | refine ⟨⟨by decide, by decide⟩, ?_⟩))
    refine ite2 (fun yy => ?_) (fun yy => ?_)
    · have y' : i ∉ endL n x y (2 * n) ++ ((scan (way (sideF (2 * n) x y) (sm n)) (endL n x y (2 * n)) i).map (way (sideF (2 * n) x y) (sm n))).flatten := by
        simp only [if_pos, inV_ni] at yy
        simpa using yy
      have sc : scan (way (sideF (2 * n) x y) (sm n)) (endL n x y (2 * n)) (i + 1) = scan (way (sideF (2 * n) x y) (sm n)) (endL n x y (2 * n)) i ++ [i] := if_neg y'
      (repeat (first | refine ⟨_, rfl, ?_⟩ | refine ⟨_, _, rfl, rfl, ?_⟩ | refine ⟨rfl, ?_⟩ | refine ⟨_, _, rfl, .inl (by assumption), ?_⟩ | refine ⟨Or.inl ⟨by decide, by decide⟩, ?_⟩ | refine ⟨(by show (0 : Int) < _; decide), ?_⟩ | refine ⟨⟨by decide, by decide⟩, ?_⟩))
      refine ⟨.inl ⟨rfl, _, SqL.of e1⟩, ?_⟩
      (repeat (first | refine ⟨_, rfl, ?_⟩ | refine ⟨_, _, rfl, rfl, ?_⟩ | refine ⟨rfl, ?_⟩ | refine ⟨_, _, rfl, .inl (by assumption), ?_⟩ | refine ⟨Or.inl ⟨by decide, by decide⟩, ?_⟩ | refine ⟨(by show (0 : Int) < _; decide), ?_⟩ | refine ⟨⟨by decide, by decide⟩, ?_⟩))
      refine ⟨r, n, _, i, rfl, S1.seq hS, A, hi, hn, fun l H2 S2 hl2 e2 => ?_⟩
      have f1 := S2 _ _ e1
      (repeat (first | refine ⟨_, rfl, ?_⟩ | refine ⟨_, _, rfl, rfl, ?_⟩ | refine ⟨rfl, ?_⟩ | refine ⟨_, _, rfl, .inl (by assumption), ?_⟩ | refine ⟨Or.inl ⟨by decide, by decide⟩, ?_⟩ | refine ⟨(by show (0 : Int) < _; decide), ?_⟩ | refine ⟨⟨by decide, by decide⟩, ?_⟩))
      have wl := way_len A B hi
      refine ⟨lk, l, _, _, rfl, rfl, f1, e2, ?_, ?_⟩
      · rw [ni_len, ni_len, List.length_append]; exact small60 (by omega)
      (repeat (first | refine ⟨_, rfl, ?_⟩ | refine ⟨_, _, rfl, rfl, ?_⟩ | refine ⟨rfl, ?_⟩ | refine ⟨_, _, rfl, .inl (by assumption), ?_⟩ | refine ⟨Or.inl ⟨by decide, by decide⟩, ?_⟩ | refine ⟨(by show (0 : Int) < _; decide), ?_⟩ | refine ⟨⟨by decide, by decide⟩, ?_⟩))
      refine ⟨(S1.trans S2).upd hlk _, ?_, ?_, some (.int (i : Nat)), ?_⟩
      · rw [upd_same, sc, ← nv_append, List.map_append, List.flatten_append, List.append_assoc]
        simp
      · rw [sc, List.map_append, List.flatten_append, List.length_append, List.map_cons, List.map_nil, List.flatten_cons, List.flatten_nil, List.append_nil]
        omega
      · rw [sc, List.length_append]
        simp
    · have y' : i ∈ endL n x y (2 * n) ++ ((scan (way (sideF (2 * n) x y) (sm n)) (endL n x y (2 * n)) i).map (way (sideF (2 * n) x y) (sm n))).flatten := by
        simp only [if_pos, inV_ni] at yy
        exact nd_no yy
      have sc : scan (way (sideF (2 * n) x y) (sm n)) (endL n x y (2 * n)) (i + 1) = scan (way (sideF (2 * n) x y) (sm n)) (endL n x y (2 * n)) i := if_pos y'
      rw [sc]
      exact ⟨S1, e1, by omega, _, rfl⟩
  · rintro σ H1 ⟨S1, e1, z1, v, rfl⟩
    (repeat (first | refine ⟨_, rfl, ?_⟩ | refine ⟨_, _, rfl, rfl, ?_⟩ | refine ⟨rfl, ?_⟩ | refine ⟨_, _, rfl, .inl (by assumption), ?_⟩ | refine ⟨Or.inl ⟨by decide, by decide⟩, ?_⟩ | refine ⟨(by show (0 : Int) < _; decide), ?_⟩ | refine ⟨⟨by decide, by decide⟩, ?_⟩))
    rw [scan_rings X Y]
    exact qq H1 S1

def sp_laid (K : PySem.W.Frag) : Sp := fun vs H Q _ => ∃ (p q : Addr) (n : Nat) (x y : Nat → Nat), vs = [.ref p, .ref q] ∧ H p = some (.lst ((tab (2 * n) x).map V.int)) ∧ SqL K H q ((tab (2 * n) y).map V.int) ∧ IsArcs (2 * n) x ∧ IsArcs (2 * n) y ∧ 1 ≤ n ∧ n ≤ 20 ∧
  ∀ (r l : Addr) (H' : Hp), Same H H' → H r = none → H l = none → l ≠ r → H' r = some (.tup [.ref l, .int (rgs n x y : Nat)]) → H' l = some (.lst ((tab (2 * n) (laidF n x y)).map V.int)) → Q (.ref r) H'
theorem ok_laid (F : FunD K "laid" "laid" s_laid dV f fd) (c_refuse_unlike : Fn P w K mg base CX0 "refuse_unlike" ["one", "other"] [] 6 (sp_refuse_unlike K)) (c_in_one_row : Fn P w K mg base CX0 "in_one_row" ["one", "other"] [] 1 (sp_in_one_row K)) (c_is_end : Fn P w K mg base CX0 "is_end" ["both", "bridge"] [] 1 (sp_is_end K)) (c_way_from : Fn P w K mg base CX0 "way_from" ["both", "first"] [] 2 (sp_way_from K)) (c_many_rings : Fn P w K mg base CX0 "many_rings" ["both", "met"] [] 3 (sp_many_rings K)) (mlen : mg "len" = none) (mrange : mg "range" = none) : FnOk P w K mg base CX0 7 f fd ["one", "other"] (sp_laid K) := by
  refine F.ok (k := 6) sc_laid (fun vs H Q E h => ?_) (fun cdv A outer s H vs Q E hr h => ?_)
  · obtain ⟨_, _, _, _, _, rfl, _⟩ := h; rfl
  obtain ⟨p, q, n, x, y, rfl, hP, hQ, X, Y, h1, h2, qq⟩ := h
  have nd := sc_laid.nd
  refine ⟨_, (pss_cons (ps_expr (pe_fn c_refuse_unlike hr (by decide) rfl (pa_cons (pv 0) (pa_cons (pv 1) pa_nil))))
  (pss_cons (ps_set (i := 2) nd rfl (Or.inr rfl) (pe_fn c_in_one_row hr (by decide) rfl (pa_cons (pv 0) (pa_cons (pv 1) pa_nil))))
  (pss_cons (ps_comp (i := 3) nd rfl rfl rfl (compOk (N' := ["bridge", "both"]) (js := [none, some 2]) (N := ["one", "other", "both", "ends", "arcs", "met", "end", "way"]) (sc := defScope s_laid) rfl rfl rfl (by decide +kernel) (by decide +kernel) (by decide +kernel) rfl (by decide +kernel)) rfl (pi_range1 rfl mrange (pa_cons (pe_callB call_len_seq rfl mlen PySem.boot_len (pa_cons (pv 2) pa_nil)) pa_nil)) (fun _ _ _ _ _ => (pg_name (i := 0) (show [("bridge" : PySem.Str), ("both" : PySem.Str)].Nodup by decide +kernel) rfl (Or.inl rfl))) (fun _ _ _ _ _ => pf_one (pt_val (pe_fn c_is_end hr (by decide) rfl (pa_cons (pv 1) (pa_cons (pv 0) pa_nil))))) (fun _ _ _ _ _ => (pv 0)))
  (pss_cons (ps_set (i := 4) nd rfl (Or.inl rfl) (pe_lst pa_nil))
  (pss_cons (ps_set (i := 5) nd rfl (Or.inl rfl) (pe_lst pa_nil))
  (pss_cons (ps_for PassesOwn.never rfl (pi_list (pv 3)) (pg_name (i := 6) nd rfl (Or.inl rfl)) (pss_cons (ps_set (i := 7) nd rfl (Or.inl rfl) (pe_fn c_way_from hr (by decide) rfl (pa_cons (pv 2) (pa_cons (pv 6) pa_nil))))
  (pss_cons (ps_expr (pe_bm PySem.F.plainAttrs_list PySem.F.slot_list_append PySem.F.type_list_append mt_append (pv 4) (pa_cons (pe_bm PySem.F.plainAttrs_list PySem.F.slot_list_index PySem.F.type_list_index mt_index (pv 3) (pa_cons (pe_ix ix_list (pv 7) (pe_un un_neg pe_int) (fun _ _ => rfl)) pa_nil)) pa_nil)))
  (pss_one (ps_expr (pe_bm PySem.F.plainAttrs_list PySem.F.slot_list_extend PySem.F.type_list_extend mt_extend (pv 5) (pa_cons (pv 7) pa_nil)))))))
  (pss_one (ps_ret (pe_tup (pa_cons (pv 4) (pa_cons (pe_fn c_many_rings hr (by decide) rfl (pa_cons (pv 2) (pa_cons (pv 5) pa_nil))) pa_nil))))))))))), ?_⟩
  have A := both_pairs X Y
  have B := sm_invo n
  (repeat (first | refine ⟨_, rfl, ?_⟩ | refine ⟨_, _, rfl, rfl, ?_⟩ | refine ⟨rfl, ?_⟩ | refine ⟨_, _, rfl, .inl (by assumption), ?_⟩ | refine ⟨Or.inl ⟨by decide, by decide⟩, ?_⟩ | refine ⟨(by show (0 : Int) < _; decide), ?_⟩ | refine ⟨⟨by decide, by decide⟩, ?_⟩))
  refine ⟨p, q, tab (2 * n) x, tab (2 * n) y, rfl, SqL.of hP, hQ, isArcs_tab X (by omega) (by omega) (by omega), isArcs_tab Y (by omega) (by omega) (by omega), by rw [tab_length, tab_length], fun H0 S0 => ?_⟩
  (repeat (first | refine ⟨_, rfl, ?_⟩ | refine ⟨_, _, rfl, rfl, ?_⟩ | refine ⟨rfl, ?_⟩ | refine ⟨_, _, rfl, .inl (by assumption), ?_⟩ | refine ⟨Or.inl ⟨by decide, by decide⟩, ?_⟩ | refine ⟨(by show (0 : Int) < _; decide), ?_⟩ | refine ⟨⟨by decide, by decide⟩, ?_⟩))
  refine ⟨p, q, 2 * n, 2 * n, x, y, rfl, S0 _ _ hP, S0.seq hQ, by omega, fun rb H1 S1 hrb eb0 => ?_⟩
  have e4 : 2 * n + 2 * n = 4 * n := by omega
  rw [e4] at eb0
  have hb1 : SqL K H1 rb ((tab (4 * n) (sideF (2 * n) x y)).map V.int) := SqL.of eb0
  have hl0 : ((tab (4 * n) (sideF (2 * n) x y)).map V.int).length = 4 * n := by rw [List.length_map, tab_length]
  (repeat (first | refine ⟨_, rfl, ?_⟩ | refine ⟨_, _, rfl, rfl, ?_⟩ | refine ⟨rfl, ?_⟩ | refine ⟨_, _, rfl, .inl (by assumption), ?_⟩ | refine ⟨Or.inl ⟨by decide, by decide⟩, ?_⟩ | refine ⟨(by show (0 : Int) < _; decide), ?_⟩ | refine ⟨⟨by decide, by decide⟩, ?_⟩))
  rw [hl0]
  refine ⟨by omega, by omega, fun le hle => ?_⟩
  rw [Int.toNat_natCast]
  refine comp_if (4 * n) (fun i => endB n i) (fun i => .int (i : Nat)) (fun σ => ∃ u, σ = [u, some (.ref rb)]) (small60 (by omega)) ⟨_, rfl⟩ hle (fun i H' hi _ => hi) (fun H' _ => Nat.le_refl _) ?_ ?_
  · rintro i z σ' H' H2 kT kF hi ⟨u, rfl⟩ S' ⟨rfl, rfl⟩ hT hF
    have e0 : (0 : Int) + (i : Int) = i := by omega
    rw [e0]
    (repeat (first | refine ⟨_, rfl, ?_⟩ | refine ⟨_, _, rfl, rfl, ?_⟩ | refine ⟨rfl, ?_⟩ | refine ⟨_, _, rfl, .inl (by assumption), ?_⟩ | refine ⟨Or.inl ⟨by decide, by decide⟩, ?_⟩ | refine ⟨(by show (0 : Int) < _; decide), ?_⟩ | refine ⟨⟨by decide, by decide⟩, ?_⟩))
    refine ⟨rb, n, _, i, rfl, S'.seq hb1, ?_⟩
    (repeat (first | refine ⟨_, rfl, ?_⟩ | refine ⟨_, _, rfl, rfl, ?_⟩ | refine ⟨rfl, ?_⟩ | refine ⟨_, _, rfl, .inl (by assumption), ?_⟩ | refine ⟨Or.inl ⟨by decide, by decide⟩, ?_⟩ | refine ⟨(by show (0 : Int) < _; decide), ?_⟩ | refine ⟨⟨by decide, by decide⟩, ?_⟩))
    cases e : endB n i with
    | true =>
      refine iteT ?_
      (repeat (first | refine ⟨_, rfl, ?_⟩ | refine ⟨_, _, rfl, rfl, ?_⟩ | refine ⟨rfl, ?_⟩ | refine ⟨_, _, rfl, .inl (by assumption), ?_⟩ | refine ⟨Or.inl ⟨by decide, by decide⟩, ?_⟩ | refine ⟨(by show (0 : Int) < _; decide), ?_⟩ | refine ⟨⟨by decide, by decide⟩, ?_⟩))
      exact hT e _ _ _ ⟨_, rfl⟩ rfl (Same.refl _)
    | false =>
      refine iteF ?_
      exact hF e _ _ ⟨_, rfl⟩ (Same.refl _)
  intro H2 S2 ee0
  have ee : H2 le = some (.lst ((ni ((List.range (2 * n)).map (out n))).map V.int)) := by
    rw [ee0]
    have : (List.range (4 * n)).filter (fun i => endB n i) = (List.range (2 * n)).map (out n) := ends_list n
    rw [this]
    unfold ni
    rw [List.map_map, List.map_map, List.map_map]
    rfl
  (repeat (first | refine ⟨_, rfl, ?_⟩ | refine ⟨_, _, rfl, rfl, ?_⟩ | refine ⟨rfl, ?_⟩ | refine ⟨_, _, rfl, .inl (by assumption), ?_⟩ | refine ⟨Or.inl ⟨by decide, by decide⟩, ?_⟩ | refine ⟨(by show (0 : Int) < _; decide), ?_⟩ | refine ⟨⟨by decide, by decide⟩, ?_⟩))
  refine ⟨by decide, fun lar hla => ?_⟩
  have S3 := same_upd_new hla (.lst [])
  (repeat (first | refine ⟨_, rfl, ?_⟩ | refine ⟨_, _, rfl, rfl, ?_⟩ | refine ⟨rfl, ?_⟩ | refine ⟨_, _, rfl, .inl (by assumption), ?_⟩ | refine ⟨Or.inl ⟨by decide, by decide⟩, ?_⟩ | refine ⟨(by show (0 : Int) < _; decide), ?_⟩ | refine ⟨⟨by decide, by decide⟩, ?_⟩))
  refine ⟨by decide, fun lm hlm => ?_⟩
  have S4 := same_upd_new hlm (.lst [])
  have nam : lar ≠ lm := fun z => by rw [z, upd_same] at hlm; cases hlm
  have S01 := S0.trans S1
  have S012 := S01.trans S2
  have zla : H lar = none := S012.free hla
  have zlm : H lm = none := S012.free (S3.free hlm)
  have S34 := S3.trans S4
  have g1 := S34 _ _ ee
  have g2 := S34 _ _ (S2 _ _ eb0)
  have zb : H rb = none := S0.free hrb
  have nae : lar ≠ le := (ne_of_none ee hla).symm
  have nme : lm ≠ le := (ne_of_none (S3 _ _ ee) hlm).symm
  have nab : lar ≠ rb := (ne_of_none (S2 _ _ eb0) hla).symm
  have nmb : lm ≠ rb := (ne_of_none (S3 _ _ (S2 _ _ eb0)) hlm).symm
  have ze : H le = none := S01.free hle
  (repeat (first | refine ⟨_, rfl, ?_⟩ | refine ⟨_, _, rfl, rfl, ?_⟩ | refine ⟨rfl, ?_⟩ | refine ⟨_, _, rfl, .inl (by assumption), ?_⟩ | refine ⟨Or.inl ⟨by decide, by decide⟩, ?_⟩ | refine ⟨(by show (0 : Int) < _; decide), ?_⟩ | refine ⟨⟨by decide, by decide⟩, ?_⟩))
  refine ⟨⟨_, SqL.of g1⟩, ?_⟩
  refine for_list (xs := (ni ((List.range (2 * n)).map (out n))).map V.int) (fun i σ H' => Same H H' ∧ H' rb = some (.lst ((tab (4 * n) (sideF (2 * n) x y)).map V.int)) ∧ H' le = some (.lst ((ni ((List.range (2 * n)).map (out n))).map V.int)) ∧ H' lar = some (.lst ((tab i (laidF n x y)).map V.int)) ∧ H' lm = some (.lst ((ni (endL n x y i)).map V.int)) ∧ (endL n x y i).length ≤ 200 * i ∧ ∃ u v, σ = [some (.ref p), some (.ref q), some (.ref rb), some (.ref le), some (.ref lar), some (.ref lm), u, v]) ?_ ?_ ?_ ?_
  · refine ⟨S012.trans S34, g2, g1, ?_, ?_, by simp [endL], _, _, rfl⟩
    · rw [upd_ne nam, upd_same]; rfl
    · rw [upd_same]; rfl
  · rintro i σ H' _ ⟨_, _, h, _⟩
    exact SqL.of h
  · rintro i z σ H5 hz ⟨S5, b5, e5, a5, m5, z5, u, v, rfl⟩
    have hi : i < 2 * n := by
      have := (List.getElem?_eq_some_iff.mp hz).1
      simpa [ni] using this
    have ez : z = .int (out n i : Nat) := by
      rw [List.getElem?_map, ni_get (x := out n i) (by simp [hi])] at hz
      exact (Option.some.inj hz).symm
    subst ez
    obtain ⟨o1, o2⟩ := out_end hi
    obtain ⟨l1, l2, l3⟩ := last_end X Y o2 o1
    (repeat (first | refine ⟨_, rfl, ?_⟩ | refine ⟨_, _, rfl, rfl, ?_⟩ | refine ⟨rfl, ?_⟩ | refine ⟨_, _, rfl, .inl (by assumption), ?_⟩ | refine ⟨Or.inl ⟨by decide, by decide⟩, ?_⟩ | refine ⟨(by show (0 : Int) < _; decide), ?_⟩ | refine ⟨⟨by decide, by decide⟩, ?_⟩))
    refine ⟨rb, n, _, out n i, rfl, SqL.of b5, A, o2, by omega, fun lw H6 S6 hlw ew => ?_⟩
    have a6 := S6 _ _ a5
    have e6 := S6 _ _ e5
    have m6 := S6 _ _ m5
    have b6 := S6 _ _ b5
    have naw : lar ≠ lw := ne_of_none a5 hlw
    (repeat (first | refine ⟨_, rfl, ?_⟩ | refine ⟨_, _, rfl, rfl, ?_⟩ | refine ⟨rfl, ?_⟩ | refine ⟨_, _, rfl, .inl (by assumption), ?_⟩ | refine ⟨Or.inl ⟨by decide, by decide⟩, ?_⟩ | refine ⟨(by show (0 : Int) < _; decide), ?_⟩ | refine ⟨⟨by decide, by decide⟩, ?_⟩))
    refine ⟨.inl ⟨rfl, _, SqL.of a6⟩, ?_⟩
    (repeat (first | refine ⟨_, rfl, ?_⟩ | refine ⟨_, _, rfl, rfl, ?_⟩ | refine ⟨rfl, ?_⟩ | refine ⟨_, _, rfl, .inl (by assumption), ?_⟩ | refine ⟨Or.inl ⟨by decide, by decide⟩, ?_⟩ | refine ⟨(by show (0 : Int) < _; decide), ?_⟩ | refine ⟨⟨by decide, by decide⟩, ?_⟩))
    refine ⟨.inl ⟨rfl, _, SqL.of e6⟩, ?_⟩
    (repeat (first | refine ⟨_, rfl, ?_⟩ | refine ⟨_, _, rfl, rfl, ?_⟩ | refine ⟨rfl, ?_⟩ | refine ⟨_, _, rfl, .inl (by assumption), ?_⟩ | refine ⟨Or.inl ⟨by decide, by decide⟩, ?_⟩ | refine ⟨(by show (0 : Int) < _; decide), ?_⟩ | refine ⟨⟨by decide, by decide⟩, ?_⟩))
    refine ⟨lw, _, _, _, rfl, rfl, SqL.of (by rw [ew, way_split]), atI_last _ _, ?_⟩
    (repeat (first | refine ⟨_, rfl, ?_⟩ | refine ⟨_, _, rfl, rfl, ?_⟩ | refine ⟨rfl, ?_⟩ | refine ⟨_, _, rfl, .inl (by assumption), ?_⟩ | refine ⟨Or.inl ⟨by decide, by decide⟩, ?_⟩ | refine ⟨(by show (0 : Int) < _; decide), ?_⟩ | refine ⟨⟨by decide, by decide⟩, ?_⟩))
    have ex : lastP (sideF (2 * n) x y) (sm n) (out n i) = out n (laidF n x y i) := (out_uno l1).symm
    rw [ex]
    have hlt : laidF n x y i < 2 * n := (laid_comp X Y).pr.lt i hi
    refine ⟨le, _, _, rfl, rfl, e6, mem_ni.mpr (List.mem_map.mpr ⟨_, List.mem_range.mpr hlt, rfl⟩), ?_⟩
    rw [idx_out hlt]
    (repeat (first | refine ⟨_, rfl, ?_⟩ | refine ⟨_, _, rfl, rfl, ?_⟩ | refine ⟨rfl, ?_⟩ | refine ⟨_, _, rfl, .inl (by assumption), ?_⟩ | refine ⟨Or.inl ⟨by decide, by decide⟩, ?_⟩ | refine ⟨(by show (0 : Int) < _; decide), ?_⟩ | refine ⟨⟨by decide, by decide⟩, ?_⟩))
    refine ⟨lar, _, _, rfl, rfl, a6, by rw [List.length_map, tab_length]; exact small1000 (by omega), ?_⟩
    have m7 : upd H6 lar (.lst ((tab i (laidF n x y)).map V.int ++ [.int (laidF n x y i : Nat)])) lm = some (.lst ((ni (endL n x y i)).map V.int)) := by rw [upd_ne (Ne.symm nam)]; exact m6
    (repeat (first | refine ⟨_, rfl, ?_⟩ | refine ⟨_, _, rfl, rfl, ?_⟩ | refine ⟨rfl, ?_⟩ | refine ⟨_, _, rfl, .inl (by assumption), ?_⟩ | refine ⟨Or.inl ⟨by decide, by decide⟩, ?_⟩ | refine ⟨(by show (0 : Int) < _; decide), ?_⟩ | refine ⟨⟨by decide, by decide⟩, ?_⟩))
    refine ⟨.inl ⟨rfl, _, SqL.of m7⟩, ?_⟩
    (repeat (first | refine ⟨_, rfl, ?_⟩ | refine ⟨_, _, rfl, rfl, ?_⟩ | refine ⟨rfl, ?_⟩ | refine ⟨_, _, rfl, .inl (by assumption), ?_⟩ | refine ⟨Or.inl ⟨by decide, by decide⟩, ?_⟩ | refine ⟨(by show (0 : Int) < _; decide), ?_⟩ | refine ⟨⟨by decide, by decide⟩, ?_⟩))
    have wl := way_len A B o2
    refine ⟨lm, lw, _, _, rfl, rfl, m7, (by rw [upd_ne (Ne.symm naw)]; exact ew), ?_, ?_⟩
    · rw [ni_len, ni_len]; exact small60 (by omega)
    refine ⟨((S5.trans S6).upd zla _).upd zlm _, ?_, ?_, ?_, ?_, ?_, _, _, rfl⟩
    · rw [upd_ne (Ne.symm nmb), upd_ne (Ne.symm nab)]; exact b6
    · rw [upd_ne (Ne.symm nme), upd_ne (Ne.symm nae)]; exact e6
    · rw [upd_ne nam, upd_same]
      unfold tab
      rw [List.range_succ, List.map_append, List.map_append]
      rfl
    · rw [upd_same, endL_succ, nv_append]
    · rw [endL_succ, List.length_append]; omega
  · rintro σ H5 ⟨S5, b5, e5, a5, m5, z5, u, v, rfl⟩
    have el : ((ni ((List.range (2 * n)).map (out n))).map V.int).length = 2 * n := by simp [ni]
    rw [el] at a5 m5 z5
    (repeat (first | refine ⟨_, rfl, ?_⟩ | refine ⟨_, _, rfl, rfl, ?_⟩ | refine ⟨rfl, ?_⟩ | refine ⟨_, _, rfl, .inl (by assumption), ?_⟩ | refine ⟨Or.inl ⟨by decide, by decide⟩, ?_⟩ | refine ⟨(by show (0 : Int) < _; decide), ?_⟩ | refine ⟨⟨by decide, by decide⟩, ?_⟩))
    refine ⟨rb, lm, n, x, y, rfl, SqL.of b5, SqL.of m5, by omega, X, Y, by omega, fun H6 S6 => ?_⟩
    (repeat (first | refine ⟨_, rfl, ?_⟩ | refine ⟨_, _, rfl, rfl, ?_⟩ | refine ⟨rfl, ?_⟩ | refine ⟨_, _, rfl, .inl (by assumption), ?_⟩ | refine ⟨Or.inl ⟨by decide, by decide⟩, ?_⟩ | refine ⟨(by show (0 : Int) < _; decide), ?_⟩ | refine ⟨⟨by decide, by decide⟩, ?_⟩))
    refine ⟨(by show 2 ≤ sizeLine; decide), fun rt hrt => ?_⟩
    have a6 := S6 _ _ a5
    exact qq rt lar _ (S5.trans (S6.trans (same_upd_new hrt _))) (S5.free (S6.free hrt)) zla (ne_of_none a6 hrt) upd_same (same_upd_new hrt _ _ _ a6)

def sp_law_cell_at (K : PySem.W.Frag) : Sp := fun vs H Q _ => ∃ (a : Addr) (ns : List Int) (k : Int), vs = [.ref a, .int k] ∧ SqL K H a (ns.map V.int) ∧ 0 ≤ k ∧ Q (.int (cellAt ns k)) H
theorem ok_law_cell_at (F : FunD K "_law_cell_at" "_law_cell_at" s_law_cell_at dV f fd) (mlen : mg "len" = none) : FnOk P w K mg base CX0 1 f fd ["script", "k"] (sp_law_cell_at K) := by
  refine F.ok (k := 0) sc_law_cell_at (fun vs H Q E h => ?_) (fun cdv A outer s H vs Q E hr h => ?_)
  · obtain ⟨_, _, _, rfl, _⟩ := h; rfl
  obtain ⟨a, ns, k, rfl, hS, h0, q⟩ := h
  have nd := sc_law_cell_at.nd
  refine ⟨_, (pss_cons (ps_if (pt_cmpR op_lt (pv 1) (pe_callB call_len_seq rfl mlen PySem.boot_len (pa_cons (pv 0) pa_nil)) (nomark _)) (pss_one (ps_ret (pe_ix ix_list (pv 0) (pv 1) (fun _ _ => rfl)))) pss_nil)
  (pss_one (ps_ret pe_int))), ?_⟩
  have hl : (ns.map V.int).length = ns.length := List.length_map _
  unfold cellAt at q
  (repeat (first | refine ⟨_, rfl, ?_⟩ | refine ⟨_, _, rfl, rfl, ?_⟩ | refine ⟨rfl, ?_⟩ | refine ⟨_, _, rfl, .inl (by assumption), ?_⟩ | refine ⟨Or.inl ⟨by decide, by decide⟩, ?_⟩ | refine ⟨(by show (0 : Int) < _; decide), ?_⟩ | refine ⟨⟨by decide, by decide⟩, ?_⟩))
  rw [hl]
  refine ite2 (fun c => ?_) (fun c => ?_)
  · have c' : k < ns.length := of_decide_eq_true c
    obtain ⟨v, hv⟩ : ∃ v, ns[k.toNat]? = some v := ⟨_, List.getElem?_eq_getElem (by omega)⟩
    (repeat (first | refine ⟨_, rfl, ?_⟩ | refine ⟨_, _, rfl, rfl, ?_⟩ | refine ⟨rfl, ?_⟩ | refine ⟨_, _, rfl, .inl (by assumption), ?_⟩ | refine ⟨Or.inl ⟨by decide, by decide⟩, ?_⟩ | refine ⟨(by show (0 : Int) < _; decide), ?_⟩ | refine ⟨⟨by decide, by decide⟩, ?_⟩))
    refine ⟨_, _, _, _, rfl, rfl, hS, atI_int h0 hv, ?_⟩
    exact toI q (by rw [List.getD_eq_getElem?_getD, hv]; rfl)
  · have c' : ¬ k < ns.length := fun z => c (decide_eq_true z)
    exact toI q (by rw [List.getD_eq_getElem?_getD, List.getElem?_eq_none (by omega)]; rfl)

def sp_law_whole : Sp := fun vs H Q _ => ∃ i : Int, vs = [.int i] ∧ Q (.bl true) H
theorem ok_law_whole (F : FunD K "_law_whole" "_law_whole" s_law_whole dV f fd) (kib : PySem.W.kitOne K (.type "int") (.type "bool") = some false) (misinstance : mg "isinstance" = none) (mint : mg "int" = none) (mbool : mg "bool" = none) : FnOk P w K mg base CX0 1 f fd ["found"] sp_law_whole := by
  refine F.ok (k := 0) sc_law_whole (fun vs H Q E h => ?_) (fun cdv A outer s H vs Q E hr h => ?_)
  · obtain ⟨_, rfl, _⟩ := h; rfl
  obtain ⟨i, rfl, q⟩ := h
  have nd := sc_law_whole.nd
  refine ⟨_, (pss_one (ps_ret (pe_and (pe_callB call_inst rfl misinstance PyProof.Rows.boot_isinstance (pa_cons (pv 0) (pa_cons (pe_bltn (v := .ty "int") rfl mint PyProof.Rows.boot_int rfl) pa_nil))) (pe_one (pe_not (pe_callB call_inst rfl misinstance PyProof.Rows.boot_isinstance (pa_cons (pv 0) (pa_cons (pe_bltn (v := .ty "bool") rfl mbool PyProof.Rows.boot_bool rfl) pa_nil)))))))), ?_⟩
  (repeat (first | refine ⟨_, rfl, ?_⟩ | refine ⟨_, _, rfl, rfl, ?_⟩ | refine ⟨rfl, ?_⟩ | refine ⟨_, _, rfl, .inl (by assumption), ?_⟩ | refine ⟨Or.inl ⟨by decide, by decide⟩, ?_⟩ | refine ⟨(by show (0 : Int) < _; decide), ?_⟩ | refine ⟨⟨by decide, by decide⟩, ?_⟩))
  refine ⟨_, _, _, true, rfl, TyOf.int i, rfl, ?_⟩
  (repeat (first | refine ⟨_, rfl, ?_⟩ | refine ⟨_, _, rfl, rfl, ?_⟩ | refine ⟨rfl, ?_⟩ | refine ⟨_, _, rfl, .inl (by assumption), ?_⟩ | refine ⟨Or.inl ⟨by decide, by decide⟩, ?_⟩ | refine ⟨(by show (0 : Int) < _; decide), ?_⟩ | refine ⟨⟨by decide, by decide⟩, ?_⟩))
  (try refine iteT ?_)
  (repeat (first | refine ⟨_, rfl, ?_⟩ | refine ⟨_, _, rfl, rfl, ?_⟩ | refine ⟨rfl, ?_⟩ | refine ⟨_, _, rfl, .inl (by assumption), ?_⟩ | refine ⟨Or.inl ⟨by decide, by decide⟩, ?_⟩ | refine ⟨(by show (0 : Int) < _; decide), ?_⟩ | refine ⟨⟨by decide, by decide⟩, ?_⟩))
  refine ⟨_, _, _, false, rfl, TyOf.int i, kib, ?_⟩
  (repeat (first | refine ⟨_, rfl, ?_⟩ | refine ⟨_, _, rfl, rfl, ?_⟩ | refine ⟨rfl, ?_⟩ | refine ⟨_, _, rfl, .inl (by assumption), ?_⟩ | refine ⟨Or.inl ⟨by decide, by decide⟩, ?_⟩ | refine ⟨(by show (0 : Int) < _; decide), ?_⟩ | refine ⟨⟨by decide, by decide⟩, ?_⟩))
  exact q

/-- a list that was made here, or the script: its kind is seen -/
def Lst (H : Hp) (a : Addr) (xs : List V) : Prop := H a = some (.lst xs)
def sp_law_numbers (K : PySem.W.Frag) : Sp := fun vs H Q _ => ∃ (a b : Addr) (xs ys : List Int), vs = [.ref a, .ref b] ∧ H a = some (.lst (xs.map V.int)) ∧ SqL K H b (ys.map V.int) ∧ Q (.bl (decide (xs = ys))) H
theorem ok_law_numbers (F : FunD K "_law_numbers" "_law_numbers" s_law_numbers dV f fd) (c_law_whole : Fn P w K mg base CX0 "_law_whole" ["found"] [] 1 sp_law_whole) (mlen : mg "len" = none) (misinstance : mg "isinstance" = none) (mlist : mg "list" = none) : FnOk P w K mg base CX0 2 f fd ["found", "due"] (sp_law_numbers K) := by
  refine F.ok (k := 1) sc_law_numbers (fun vs H Q E h => ?_) (fun cdv A outer s H vs Q E hr h => ?_)
  · obtain ⟨_, _, _, _, rfl, _⟩ := h; rfl
  obtain ⟨a, b, xs, ys, rfl, hA, hB, q⟩ := h
  have nd := sc_law_numbers.nd
  refine ⟨_, (pss_cons (ps_if (PW.pt (pw_or (pt_not (pt_val (pe_callB call_inst rfl misinstance PyProof.Rows.boot_isinstance (pa_cons (pv 0) (pa_cons (pe_bltn (v := .ty "list") rfl mlist PyProof.Rows.boot_list rfl) pa_nil))))) (pw_or1 (pt_cmpR op_ne (pe_callB call_len_seq rfl mlen PySem.boot_len (pa_cons (pv 0) pa_nil)) (pe_callB call_len_seq rfl mlen PySem.boot_len (pa_cons (pv 1) pa_nil)) (nomark _))))) (pss_one (ps_ret pe_bl)) pss_nil)
  (pss_cons (ps_for PassesOwn.never rfl (pi_list (pv 0)) (pg_name (i := 2) nd rfl (Or.inl rfl)) (pss_one (ps_if (pt_not (pt_val (pe_fn c_law_whole hr (by decide) rfl (pa_cons (pv 2) pa_nil)))) (pss_one (ps_ret pe_bl)) pss_nil)))
  (pss_one (ps_ret (pe_cmpR (op_eqT hr.units) (pv 0) (pv 1) (nomark _)))))), ?_⟩
  have hl : (xs.map V.int).length = xs.length := List.length_map _
  have hl2 : (ys.map V.int).length = ys.length := List.length_map _
  (repeat (first | refine ⟨_, rfl, ?_⟩ | refine ⟨_, _, rfl, rfl, ?_⟩ | refine ⟨rfl, ?_⟩ | refine ⟨_, _, rfl, .inl (by assumption), ?_⟩ | refine ⟨Or.inl ⟨by decide, by decide⟩, ?_⟩ | refine ⟨(by show (0 : Int) < _; decide), ?_⟩ | refine ⟨⟨by decide, by decide⟩, ?_⟩))
  refine ⟨_, _, _, true, rfl, TyOf.lst hA, rfl, ?_⟩
  (repeat (first | refine ⟨_, rfl, ?_⟩ | refine ⟨_, _, rfl, rfl, ?_⟩ | refine ⟨rfl, ?_⟩ | refine ⟨_, _, rfl, .inl (by assumption), ?_⟩ | refine ⟨Or.inl ⟨by decide, by decide⟩, ?_⟩ | refine ⟨(by show (0 : Int) < _; decide), ?_⟩ | refine ⟨⟨by decide, by decide⟩, ?_⟩))
  (try refine iteF ?_)
  (repeat (first | refine ⟨_, rfl, ?_⟩ | refine ⟨_, _, rfl, rfl, ?_⟩ | refine ⟨rfl, ?_⟩ | refine ⟨_, _, rfl, .inl (by assumption), ?_⟩ | refine ⟨Or.inl ⟨by decide, by decide⟩, ?_⟩ | refine ⟨(by show (0 : Int) < _; decide), ?_⟩ | refine ⟨⟨by decide, by decide⟩, ?_⟩))
  refine ⟨a, _, rfl, .inl (SqL.of hA), ?_⟩
  (repeat (first | refine ⟨_, rfl, ?_⟩ | refine ⟨_, _, rfl, rfl, ?_⟩ | refine ⟨rfl, ?_⟩ | refine ⟨_, _, rfl, .inl (by assumption), ?_⟩ | refine ⟨Or.inl ⟨by decide, by decide⟩, ?_⟩ | refine ⟨(by show (0 : Int) < _; decide), ?_⟩ | refine ⟨⟨by decide, by decide⟩, ?_⟩))
  rw [hl, hl2]
  refine ite2 (fun c => ?_) (fun c => ?_)
  · have c' : xs.length ≠ ys.length := fun z => by rw [z] at c; simp at c
    exact toB q (decide_eq_false fun z => c' (by rw [z]))
  (repeat (first | refine ⟨_, rfl, ?_⟩ | refine ⟨_, _, rfl, rfl, ?_⟩ | refine ⟨rfl, ?_⟩ | refine ⟨_, _, rfl, .inl (by assumption), ?_⟩ | refine ⟨Or.inl ⟨by decide, by decide⟩, ?_⟩ | refine ⟨(by show (0 : Int) < _; decide), ?_⟩ | refine ⟨⟨by decide, by decide⟩, ?_⟩))
  refine ⟨⟨_, SqL.of hA⟩, ?_⟩
  refine for_list (xs := xs.map V.int) (fun i σ H' => H' = H ∧ ∃ v, σ = [some (.ref a), some (.ref b), v]) ⟨rfl, ⟨_, rfl⟩⟩ (fun i σ H' _ h => by rw [h.1]; exact SqL.of hA) ?_ ?_
  · rintro i x σ H' hx ⟨rfl, ⟨v, rfl⟩⟩
    rw [List.getElem?_map] at hx
    obtain ⟨k, _, rfl⟩ := Option.map_eq_some_iff.mp hx
    (repeat (first | refine ⟨_, rfl, ?_⟩ | refine ⟨_, _, rfl, rfl, ?_⟩ | refine ⟨rfl, ?_⟩ | refine ⟨_, _, rfl, .inl (by assumption), ?_⟩ | refine ⟨Or.inl ⟨by decide, by decide⟩, ?_⟩ | refine ⟨(by show (0 : Int) < _; decide), ?_⟩ | refine ⟨⟨by decide, by decide⟩, ?_⟩))
    (try refine iteF ?_)
    first | exact ⟨rfl, ⟨_, rfl⟩⟩ | exact ⟨_, rfl⟩
  · rintro σ H' ⟨rfl, ⟨v, rfl⟩⟩
    (repeat (first | refine ⟨_, rfl, ?_⟩ | refine ⟨_, _, rfl, rfl, ?_⟩ | refine ⟨rfl, ?_⟩ | refine ⟨_, _, rfl, .inl (by assumption), ?_⟩ | refine ⟨Or.inl ⟨by decide, by decide⟩, ?_⟩ | refine ⟨(by show (0 : Int) < _; decide), ?_⟩ | refine ⟨⟨by decide, by decide⟩, ?_⟩))
    exact ⟨_, EqT.ints (SqL.of hA) hB, q⟩

def sp_law_arcs (K : PySem.W.Frag) : Sp := fun vs H Q _ => ∃ (a : Addr) (ns : List Int) (at' : Int) (m : Nat), vs = [.ref a, .int at', .int m] ∧ SqL K H a (ns.map V.int) ∧ 0 ≤ at' ∧ 1 ≤ m ∧ m ≤ 100 ∧
  ∀ (r : Addr) (H' : Hp) (g : Nat → Nat), Same H H' → H r = none → IsArcs (2 * m) g → H' r = some (.lst ((tab (2 * m) g).map V.int)) → Q (.ref r) H'
theorem ok_law_arcs (F : FunD K "_law_arcs" "_law_arcs" s_law_arcs dV f fd) (c_law_cell_at : Fn P w K mg base CX0 "_law_cell_at" ["script", "k"] [] 1 (sp_law_cell_at K)) (mlen : mg "len" = none) (mrange : mg "range" = none) : FnOk P w K mg base CX0 2 f fd ["script", "at", "size"] (sp_law_arcs K) := by
  refine F.ok (k := 1) sc_law_arcs (fun vs H Q E h => ?_) (fun cdv A outer s H vs Q E hr h => ?_)
  · obtain ⟨_, _, _, _, rfl, _⟩ := h; rfl
  obtain ⟨a, ns, at', m, rfl, hS, h0, hm1, hm2, q⟩ := h
  have nd := sc_law_arcs.nd
  refine ⟨_, (pss_cons (ps_set (i := 3) nd rfl (Or.inl rfl) (pe_op op_rep (pe_lst (pa_cons pe_int pa_nil)) (pe_op op_mul pe_int (pv 2))))
  (pss_cons (ps_set (i := 4) nd rfl (Or.inl rfl) (pe_lst pa_nil))
  (pss_cons (ps_for PassesOwn.never rfl (pi_range1 rfl mrange (pa_cons (pe_op op_mul pe_int (pv 2)) pa_nil)) (pg_name (i := 5) nd rfl (Or.inl rfl)) (pss_cons (ps_set (i := 6) nd rfl (Or.inl rfl) (pe_fn c_law_cell_at hr (by decide) rfl (pa_cons (pv 0) (pa_cons (pe_op op_add (pv 1) (pv 5)) pa_nil))))
  (pss_cons (ps_if (pt_cmpR op_gt (pe_op op_add (pv 1) (pv 5)) pe_int (nomark _)) (pss_one (ps_set (i := 6) nd rfl (Or.inl rfl) (pe_op op_fdiv (pe_fn c_law_cell_at hr (by decide) rfl (pa_cons (pv 0) (pa_cons (pe_op op_sub (pe_op op_add (pv 1) (pv 5)) pe_int) pa_nil))) pe_int))) pss_nil)
  (pss_one (ps_if (PW.pt (pw_and (pt_cmpR op_lt (pe_callB call_len_seq rfl mlen PySem.boot_len (pa_cons (pv 4) pa_nil)) (pe_op op_sub (pe_op op_mul pe_int (pv 2)) (pv 5)) (nomark _)) (pw_and1 (PW.pt (pw_or (pt_cmpR op_eq (pe_callB call_len_seq rfl mlen PySem.boot_len (pa_cons (pv 4) pa_nil)) pe_int (nomark _)) (pw_or1 (pt_cmpR op_eq (pe_op op_mod (pe_ix ix_list (pe_lst (pa_cons (pv 6) (pa_cons (pe_op op_fdiv (pv 6) pe_int) (pa_cons pe_int (pa_cons pe_int pa_nil))))) (pe_op op_mod (pe_op op_fdiv (pv 6) pe_int) pe_int) (fun _ _ => rfl)) pe_int) pe_int (nomark _)))))))) (pss_one (ps_expr (pe_bm PySem.F.plainAttrs_list PySem.F.slot_list_append PySem.F.type_list_append mt_append (pv 4) (pa_cons (pv 5) pa_nil)))) (pss_cons (ps_set (i := 7) nd rfl (Or.inl rfl) (pe_bm0 PySem.F.plainAttrs_list PySem.F.slot_list_pop PySem.F.type_list_pop mt_pop (pv 4)))
  (pss_cons (ps_asg (pv 7) (pg_sub (pv 3) (pv 5) set_list))
  (pss_one (ps_asg (pv 5) (pg_sub (pv 3) (pv 7) set_list))))))))))
  (pss_one (ps_ret (pv 3)))))), ?_⟩
  (repeat (first | refine ⟨_, rfl, ?_⟩ | refine ⟨_, _, rfl, rfl, ?_⟩ | refine ⟨rfl, ?_⟩ | refine ⟨_, _, rfl, .inl (by assumption), ?_⟩ | refine ⟨Or.inl ⟨by decide, by decide⟩, ?_⟩ | refine ⟨(by show (0 : Int) < _; decide), ?_⟩ | refine ⟨⟨by decide, by decide⟩, ?_⟩))
  refine ⟨by decide, fun l0 hl0 => ?_⟩
  (repeat (first | refine ⟨_, rfl, ?_⟩ | refine ⟨_, _, rfl, rfl, ?_⟩ | refine ⟨rfl, ?_⟩ | refine ⟨_, _, rfl, .inl (by assumption), ?_⟩ | refine ⟨Or.inl ⟨by decide, by decide⟩, ?_⟩ | refine ⟨(by show (0 : Int) < _; decide), ?_⟩ | refine ⟨⟨by decide, by decide⟩, ?_⟩))
  have e2 : ((2 : Int) * (m : Int)).toNat = 2 * m := by omega
  refine ⟨l0, _, _, rfl, rfl, upd_same, by omega, by omega, ?_, fun l hl => ?_⟩
  · rw [e2]; exact small60 (by simp; omega)
  have eR : (List.replicate ((2 : Int) * (m : Int)).toNat [V.int 0]).flatten = (tab (2 * m) fun _ => 0).map V.int := by
    rw [e2, ← tab_zero]
    simp
  rw [eR]
  have S1 : Same H (upd H l0 (.lst [.int 0])) := same_upd_new hl0 _
  have hl' : H l = none := S1.free hl
  have S2 : Same H (upd (upd H l0 (.lst [.int 0])) l (.lst ((tab (2 * m) fun _ => 0).map V.int))) := S1.trans (same_upd_new hl _)
  (repeat (first | refine ⟨_, rfl, ?_⟩ | refine ⟨_, _, rfl, rfl, ?_⟩ | refine ⟨rfl, ?_⟩ | refine ⟨_, _, rfl, .inl (by assumption), ?_⟩ | refine ⟨Or.inl ⟨by decide, by decide⟩, ?_⟩ | refine ⟨(by show (0 : Int) < _; decide), ?_⟩ | refine ⟨⟨by decide, by decide⟩, ?_⟩))
  refine ⟨by decide, fun p hp => ?_⟩
  have hp' : H p = none := S2.free hp
  have S3 := S2.trans (same_upd_new hp (.lst []))
  have npl : l ≠ p := fun z => by rw [z, upd_same] at hp; cases hp
  (repeat (first | refine ⟨_, rfl, ?_⟩ | refine ⟨_, _, rfl, rfl, ?_⟩ | refine ⟨rfl, ?_⟩ | refine ⟨_, _, rfl, .inl (by assumption), ?_⟩ | refine ⟨Or.inl ⟨by decide, by decide⟩, ?_⟩ | refine ⟨(by show (0 : Int) < _; decide), ?_⟩ | refine ⟨⟨by decide, by decide⟩, ?_⟩))
  refine ⟨by omega, by omega, ?_⟩
  rw [e2]
  refine for_range (fun i σ H' => ∃ (b : Nat → Bool) (g : Nat → Nat) (S : List Nat) (u v x : Option V), Same H H' ∧ H' l = some (.lst ((tab (2 * m) g).map V.int)) ∧ H' p = some (.lst (S.map fun j : Nat => V.int (j : Int))) ∧ Run b i g S ∧ S.length + i ≤ 2 * m ∧ (2 * m - i - S.length) % 2 = 0 ∧ σ = [some (.ref a), some (.int at'), some (.int m), some (.ref l), some (.ref p), u, v, x]) ?_ ?_ ?_
  · exact ⟨fun _ => true, fun _ => 0, [], none, none, none, S3, by rw [upd_ne npl, upd_same], upd_same, Run.start _ _, by simp, by simp, rfl⟩
  · rintro i σ H' hi ⟨b, g, S, u, v, x, S4, hf, ha, R, hle, hpar, rfl⟩
    have e0 : (0 : Int) + (i : Int) = i := by omega
    rw [e0]
    have nlp : l ≠ p := npl
    have hap : SqL K H' p (S.map fun j : Nat => V.int (j : Int)) := SqL.of ha
    have hlS : (S.map fun j : Nat => V.int (j : Int)).length = S.length := List.length_map _
    (repeat (first | refine ⟨_, rfl, ?_⟩ | refine ⟨_, _, rfl, rfl, ?_⟩ | refine ⟨rfl, ?_⟩ | refine ⟨_, _, rfl, .inl (by assumption), ?_⟩ | refine ⟨Or.inl ⟨by decide, by decide⟩, ?_⟩ | refine ⟨(by show (0 : Int) < _; decide), ?_⟩ | refine ⟨⟨by decide, by decide⟩, ?_⟩))
    refine ⟨a, ns, at' + i, rfl, S4.seq hS, by omega, ?_⟩
    (repeat (first | refine ⟨_, rfl, ?_⟩ | refine ⟨_, _, rfl, rfl, ?_⟩ | refine ⟨rfl, ?_⟩ | refine ⟨_, _, rfl, .inl (by assumption), ?_⟩ | refine ⟨Or.inl ⟨by decide, by decide⟩, ?_⟩ | refine ⟨(by show (0 : Int) < _; decide), ?_⟩ | refine ⟨⟨by decide, by decide⟩, ?_⟩))
    refine ite2 (fun c0 => ?_) (fun c0 => ?_)
    · have c0' : 62 < at' + i := of_decide_eq_true c0
      (repeat (first | refine ⟨_, rfl, ?_⟩ | refine ⟨_, _, rfl, rfl, ?_⟩ | refine ⟨rfl, ?_⟩ | refine ⟨_, _, rfl, .inl (by assumption), ?_⟩ | refine ⟨Or.inl ⟨by decide, by decide⟩, ?_⟩ | refine ⟨(by show (0 : Int) < _; decide), ?_⟩ | refine ⟨⟨by decide, by decide⟩, ?_⟩))
      refine ⟨a, ns, at' + i - 62, rfl, S4.seq hS, by omega, ?_⟩
      (repeat (first | refine ⟨_, rfl, ?_⟩ | refine ⟨_, _, rfl, rfl, ?_⟩ | refine ⟨rfl, ?_⟩ | refine ⟨_, _, rfl, .inl (by assumption), ?_⟩ | refine ⟨Or.inl ⟨by decide, by decide⟩, ?_⟩ | refine ⟨(by show (0 : Int) < _; decide), ?_⟩ | refine ⟨⟨by decide, by decide⟩, ?_⟩))
      rw [hlS]
      refine ite2 (fun c1 => ?_) (fun c1 => ?_)
      · have c1' : S.length < 2 * m - i := by have := of_decide_eq_true c1; omega
        (repeat (first | refine ⟨_, rfl, ?_⟩ | refine ⟨_, _, rfl, rfl, ?_⟩ | refine ⟨rfl, ?_⟩ | refine ⟨_, _, rfl, .inl (by assumption), ?_⟩ | refine ⟨Or.inl ⟨by decide, by decide⟩, ?_⟩ | refine ⟨(by show (0 : Int) < _; decide), ?_⟩ | refine ⟨⟨by decide, by decide⟩, ?_⟩))
        rw [hlS]
        refine ite2 (fun c2 => ?_) (fun c2 => ?_)
        · (try refine iteT ?_)
          have S5 : Same H' H' := Same.refl _
          (repeat (first | refine ⟨_, rfl, ?_⟩ | refine ⟨_, _, rfl, rfl, ?_⟩ | refine ⟨rfl, ?_⟩ | refine ⟨_, _, rfl, .inl (by assumption), ?_⟩ | refine ⟨Or.inl ⟨by decide, by decide⟩, ?_⟩ | refine ⟨(by show (0 : Int) < _; decide), ?_⟩ | refine ⟨⟨by decide, by decide⟩, ?_⟩))
          refine ⟨.inl ⟨rfl, _, SqL.of (S5 _ _ ha)⟩, ?_⟩
          (repeat (first | refine ⟨_, rfl, ?_⟩ | refine ⟨_, _, rfl, rfl, ?_⟩ | refine ⟨rfl, ?_⟩ | refine ⟨_, _, rfl, .inl (by assumption), ?_⟩ | refine ⟨Or.inl ⟨by decide, by decide⟩, ?_⟩ | refine ⟨(by show (0 : Int) < _; decide), ?_⟩ | refine ⟨⟨by decide, by decide⟩, ?_⟩))
          refine ⟨p, _, _, rfl, rfl, S5 _ _ ha, ?_, ?_⟩
          · rw [List.length_map]; exact small1000 (by omega)
          · exact ⟨_, g, S ++ [i], _, _, _, (S4.trans S5).upd hp' _, by rw [upd_ne nlp]; exact S5 _ _ hf, by rw [upd_same, List.map_append]; rfl, R.pushB, by rw [List.length_append, List.length_singleton]; omega, by rw [List.length_append, List.length_singleton]; omega, rfl⟩
        · (repeat (first | refine ⟨_, rfl, ?_⟩ | refine ⟨_, _, rfl, rfl, ?_⟩ | refine ⟨rfl, ?_⟩ | refine ⟨_, _, rfl, .inl (by assumption), ?_⟩ | refine ⟨Or.inl ⟨by decide, by decide⟩, ?_⟩ | refine ⟨(by show (0 : Int) < _; decide), ?_⟩ | refine ⟨⟨by decide, by decide⟩, ?_⟩))
          refine ⟨(by show 4 ≤ sizeLine; decide), fun l2 hl2 => ?_⟩
          have c2' : S.length ≠ 0 := fun z => c2 (decide_eq_true (by rw [z]; rfl))
          have S5 : Same H' (upd H' l2 (.lst [.int (cellAt ns (at' + i - 62) / 64), .int ((cellAt ns (at' + i - 62) / 64) / 2), .int 0, .int 1])) := same_upd_new hl2 _
          (repeat (first | refine ⟨_, rfl, ?_⟩ | refine ⟨_, _, rfl, rfl, ?_⟩ | refine ⟨rfl, ?_⟩ | refine ⟨_, _, rfl, .inl (by assumption), ?_⟩ | refine ⟨Or.inl ⟨by decide, by decide⟩, ?_⟩ | refine ⟨(by show (0 : Int) < _; decide), ?_⟩ | refine ⟨⟨by decide, by decide⟩, ?_⟩))
          obtain ⟨v1, hv1⟩ := atI_lt (xs := [(cellAt ns (at' + i - 62) / 64), (cellAt ns (at' + i - 62) / 64) / 2, 0, 1]) (i := (cellAt ns (at' + i - 62) / 64) / 4 % 4) (by omega) (by show _ < (4 : Int); omega)
          refine ⟨l2, _, _, _, rfl, rfl, SqL.of upd_same, hv1, ?_⟩
          (repeat (first | refine ⟨_, rfl, ?_⟩ | refine ⟨_, _, rfl, rfl, ?_⟩ | refine ⟨rfl, ?_⟩ | refine ⟨_, _, rfl, .inl (by assumption), ?_⟩ | refine ⟨Or.inl ⟨by decide, by decide⟩, ?_⟩ | refine ⟨(by show (0 : Int) < _; decide), ?_⟩ | refine ⟨⟨by decide, by decide⟩, ?_⟩))
          refine ite2 (fun c3 => ?_) (fun c3 => ?_)
          · (repeat (first | refine ⟨_, rfl, ?_⟩ | refine ⟨_, _, rfl, rfl, ?_⟩ | refine ⟨rfl, ?_⟩ | refine ⟨_, _, rfl, .inl (by assumption), ?_⟩ | refine ⟨Or.inl ⟨by decide, by decide⟩, ?_⟩ | refine ⟨(by show (0 : Int) < _; decide), ?_⟩ | refine ⟨⟨by decide, by decide⟩, ?_⟩))
            refine ⟨.inl ⟨rfl, _, SqL.of (S5 _ _ ha)⟩, ?_⟩
            (repeat (first | refine ⟨_, rfl, ?_⟩ | refine ⟨_, _, rfl, rfl, ?_⟩ | refine ⟨rfl, ?_⟩ | refine ⟨_, _, rfl, .inl (by assumption), ?_⟩ | refine ⟨Or.inl ⟨by decide, by decide⟩, ?_⟩ | refine ⟨(by show (0 : Int) < _; decide), ?_⟩ | refine ⟨⟨by decide, by decide⟩, ?_⟩))
            refine ⟨p, _, _, rfl, rfl, S5 _ _ ha, ?_, ?_⟩
            · rw [List.length_map]; exact small1000 (by omega)
            · exact ⟨_, g, S ++ [i], _, _, _, (S4.trans S5).upd hp' _, by rw [upd_ne nlp]; exact S5 _ _ hf, by rw [upd_same, List.map_append]; rfl, R.pushB, by rw [List.length_append, List.length_singleton]; omega, by rw [List.length_append, List.length_singleton]; omega, rfl⟩
          · obtain ⟨S', t, eS⟩ := ex_last (S := S) (by omega)
            subst eS
            have ht : t < i := R.lt t (by simp)
            rw [List.length_append, List.length_singleton] at hle hpar
            (repeat (first | refine ⟨_, rfl, ?_⟩ | refine ⟨_, _, rfl, rfl, ?_⟩ | refine ⟨rfl, ?_⟩ | refine ⟨_, _, rfl, .inl (by assumption), ?_⟩ | refine ⟨Or.inl ⟨by decide, by decide⟩, ?_⟩ | refine ⟨(by show (0 : Int) < _; decide), ?_⟩ | refine ⟨⟨by decide, by decide⟩, ?_⟩))
            refine ⟨.inl ⟨rfl, _, SqL.of (S5 _ _ ha)⟩, ?_⟩
            refine ⟨p, _, .int t, rfl, rfl, S5 _ _ ha, by simp, ?_⟩
            (repeat (first | refine ⟨_, rfl, ?_⟩ | refine ⟨_, _, rfl, rfl, ?_⟩ | refine ⟨rfl, ?_⟩ | refine ⟨_, _, rfl, .inl (by assumption), ?_⟩ | refine ⟨Or.inl ⟨by decide, by decide⟩, ?_⟩ | refine ⟨(by show (0 : Int) < _; decide), ?_⟩ | refine ⟨⟨by decide, by decide⟩, ?_⟩))
            refine ⟨l, _, _, i, rfl, rfl, (by rw [upd_ne nlp]; exact S5 _ _ hf), ixN_nat (by rw [List.length_map, tab_length]; omega), ?_⟩
            (repeat (first | refine ⟨_, rfl, ?_⟩ | refine ⟨_, _, rfl, rfl, ?_⟩ | refine ⟨rfl, ?_⟩ | refine ⟨_, _, rfl, .inl (by assumption), ?_⟩ | refine ⟨Or.inl ⟨by decide, by decide⟩, ?_⟩ | refine ⟨(by show (0 : Int) < _; decide), ?_⟩ | refine ⟨⟨by decide, by decide⟩, ?_⟩))
            refine ⟨l, _, _, t, rfl, rfl, upd_same, ixN_nat (by rw [List.length_set, List.length_map, tab_length]; omega), ?_⟩
            refine ⟨_, put (put g i t) t i, S', _, _, _, (((S4.trans S5).upd hp' _).upd hl' _).upd hl' _, ?_, ?_, R.popB, by omega, by omega, rfl⟩
            · rw [upd_same, ← tab_set (show t < 2 * m by omega), ← tab_set (show i < 2 * m by omega), List.map_set, List.map_set]
            · rw [upd_ne (Ne.symm nlp), upd_ne (Ne.symm nlp), upd_same, List.map_append, List.map_cons, List.map_nil, List.dropLast_concat]
      · (try refine iteF ?_)
        have c1' : ¬ S.length < 2 * m - i := fun z => c1 (decide_eq_true (by omega))
        have S5 : Same H' H' := Same.refl _
        obtain ⟨S', t, eS⟩ := ex_last (S := S) (by omega)
        subst eS
        have ht : t < i := R.lt t (by simp)
        rw [List.length_append, List.length_singleton] at hle hpar
        (repeat (first | refine ⟨_, rfl, ?_⟩ | refine ⟨_, _, rfl, rfl, ?_⟩ | refine ⟨rfl, ?_⟩ | refine ⟨_, _, rfl, .inl (by assumption), ?_⟩ | refine ⟨Or.inl ⟨by decide, by decide⟩, ?_⟩ | refine ⟨(by show (0 : Int) < _; decide), ?_⟩ | refine ⟨⟨by decide, by decide⟩, ?_⟩))
        refine ⟨.inl ⟨rfl, _, SqL.of (S5 _ _ ha)⟩, ?_⟩
        refine ⟨p, _, .int t, rfl, rfl, S5 _ _ ha, by simp, ?_⟩
        (repeat (first | refine ⟨_, rfl, ?_⟩ | refine ⟨_, _, rfl, rfl, ?_⟩ | refine ⟨rfl, ?_⟩ | refine ⟨_, _, rfl, .inl (by assumption), ?_⟩ | refine ⟨Or.inl ⟨by decide, by decide⟩, ?_⟩ | refine ⟨(by show (0 : Int) < _; decide), ?_⟩ | refine ⟨⟨by decide, by decide⟩, ?_⟩))
        refine ⟨l, _, _, i, rfl, rfl, (by rw [upd_ne nlp]; exact S5 _ _ hf), ixN_nat (by rw [List.length_map, tab_length]; omega), ?_⟩
        (repeat (first | refine ⟨_, rfl, ?_⟩ | refine ⟨_, _, rfl, rfl, ?_⟩ | refine ⟨rfl, ?_⟩ | refine ⟨_, _, rfl, .inl (by assumption), ?_⟩ | refine ⟨Or.inl ⟨by decide, by decide⟩, ?_⟩ | refine ⟨(by show (0 : Int) < _; decide), ?_⟩ | refine ⟨⟨by decide, by decide⟩, ?_⟩))
        refine ⟨l, _, _, t, rfl, rfl, upd_same, ixN_nat (by rw [List.length_set, List.length_map, tab_length]; omega), ?_⟩
        refine ⟨_, put (put g i t) t i, S', _, _, _, (((S4.trans S5).upd hp' _).upd hl' _).upd hl' _, ?_, ?_, R.popB, by omega, by omega, rfl⟩
        · rw [upd_same, ← tab_set (show t < 2 * m by omega), ← tab_set (show i < 2 * m by omega), List.map_set, List.map_set]
        · rw [upd_ne (Ne.symm nlp), upd_ne (Ne.symm nlp), upd_same, List.map_append, List.map_cons, List.map_nil, List.dropLast_concat]
    · (repeat (first | refine ⟨_, rfl, ?_⟩ | refine ⟨_, _, rfl, rfl, ?_⟩ | refine ⟨rfl, ?_⟩ | refine ⟨_, _, rfl, .inl (by assumption), ?_⟩ | refine ⟨Or.inl ⟨by decide, by decide⟩, ?_⟩ | refine ⟨(by show (0 : Int) < _; decide), ?_⟩ | refine ⟨⟨by decide, by decide⟩, ?_⟩))
      rw [hlS]
      refine ite2 (fun c1 => ?_) (fun c1 => ?_)
      · have c1' : S.length < 2 * m - i := by have := of_decide_eq_true c1; omega
        (repeat (first | refine ⟨_, rfl, ?_⟩ | refine ⟨_, _, rfl, rfl, ?_⟩ | refine ⟨rfl, ?_⟩ | refine ⟨_, _, rfl, .inl (by assumption), ?_⟩ | refine ⟨Or.inl ⟨by decide, by decide⟩, ?_⟩ | refine ⟨(by show (0 : Int) < _; decide), ?_⟩ | refine ⟨⟨by decide, by decide⟩, ?_⟩))
        rw [hlS]
        refine ite2 (fun c2 => ?_) (fun c2 => ?_)
        · (try refine iteT ?_)
          have S5 : Same H' H' := Same.refl _
          (repeat (first | refine ⟨_, rfl, ?_⟩ | refine ⟨_, _, rfl, rfl, ?_⟩ | refine ⟨rfl, ?_⟩ | refine ⟨_, _, rfl, .inl (by assumption), ?_⟩ | refine ⟨Or.inl ⟨by decide, by decide⟩, ?_⟩ | refine ⟨(by show (0 : Int) < _; decide), ?_⟩ | refine ⟨⟨by decide, by decide⟩, ?_⟩))
          refine ⟨.inl ⟨rfl, _, SqL.of (S5 _ _ ha)⟩, ?_⟩
          (repeat (first | refine ⟨_, rfl, ?_⟩ | refine ⟨_, _, rfl, rfl, ?_⟩ | refine ⟨rfl, ?_⟩ | refine ⟨_, _, rfl, .inl (by assumption), ?_⟩ | refine ⟨Or.inl ⟨by decide, by decide⟩, ?_⟩ | refine ⟨(by show (0 : Int) < _; decide), ?_⟩ | refine ⟨⟨by decide, by decide⟩, ?_⟩))
          refine ⟨p, _, _, rfl, rfl, S5 _ _ ha, ?_, ?_⟩
          · rw [List.length_map]; exact small1000 (by omega)
          · exact ⟨_, g, S ++ [i], _, _, _, (S4.trans S5).upd hp' _, by rw [upd_ne nlp]; exact S5 _ _ hf, by rw [upd_same, List.map_append]; rfl, R.pushB, by rw [List.length_append, List.length_singleton]; omega, by rw [List.length_append, List.length_singleton]; omega, rfl⟩
        · (repeat (first | refine ⟨_, rfl, ?_⟩ | refine ⟨_, _, rfl, rfl, ?_⟩ | refine ⟨rfl, ?_⟩ | refine ⟨_, _, rfl, .inl (by assumption), ?_⟩ | refine ⟨Or.inl ⟨by decide, by decide⟩, ?_⟩ | refine ⟨(by show (0 : Int) < _; decide), ?_⟩ | refine ⟨⟨by decide, by decide⟩, ?_⟩))
          refine ⟨(by show 4 ≤ sizeLine; decide), fun l2 hl2 => ?_⟩
          have c2' : S.length ≠ 0 := fun z => c2 (decide_eq_true (by rw [z]; rfl))
          have S5 : Same H' (upd H' l2 (.lst [.int (cellAt ns (at' + i)), .int ((cellAt ns (at' + i)) / 2), .int 0, .int 1])) := same_upd_new hl2 _
          (repeat (first | refine ⟨_, rfl, ?_⟩ | refine ⟨_, _, rfl, rfl, ?_⟩ | refine ⟨rfl, ?_⟩ | refine ⟨_, _, rfl, .inl (by assumption), ?_⟩ | refine ⟨Or.inl ⟨by decide, by decide⟩, ?_⟩ | refine ⟨(by show (0 : Int) < _; decide), ?_⟩ | refine ⟨⟨by decide, by decide⟩, ?_⟩))
          obtain ⟨v1, hv1⟩ := atI_lt (xs := [(cellAt ns (at' + i)), (cellAt ns (at' + i)) / 2, 0, 1]) (i := (cellAt ns (at' + i)) / 4 % 4) (by omega) (by show _ < (4 : Int); omega)
          refine ⟨l2, _, _, _, rfl, rfl, SqL.of upd_same, hv1, ?_⟩
          (repeat (first | refine ⟨_, rfl, ?_⟩ | refine ⟨_, _, rfl, rfl, ?_⟩ | refine ⟨rfl, ?_⟩ | refine ⟨_, _, rfl, .inl (by assumption), ?_⟩ | refine ⟨Or.inl ⟨by decide, by decide⟩, ?_⟩ | refine ⟨(by show (0 : Int) < _; decide), ?_⟩ | refine ⟨⟨by decide, by decide⟩, ?_⟩))
          refine ite2 (fun c3 => ?_) (fun c3 => ?_)
          · (repeat (first | refine ⟨_, rfl, ?_⟩ | refine ⟨_, _, rfl, rfl, ?_⟩ | refine ⟨rfl, ?_⟩ | refine ⟨_, _, rfl, .inl (by assumption), ?_⟩ | refine ⟨Or.inl ⟨by decide, by decide⟩, ?_⟩ | refine ⟨(by show (0 : Int) < _; decide), ?_⟩ | refine ⟨⟨by decide, by decide⟩, ?_⟩))
            refine ⟨.inl ⟨rfl, _, SqL.of (S5 _ _ ha)⟩, ?_⟩
            (repeat (first | refine ⟨_, rfl, ?_⟩ | refine ⟨_, _, rfl, rfl, ?_⟩ | refine ⟨rfl, ?_⟩ | refine ⟨_, _, rfl, .inl (by assumption), ?_⟩ | refine ⟨Or.inl ⟨by decide, by decide⟩, ?_⟩ | refine ⟨(by show (0 : Int) < _; decide), ?_⟩ | refine ⟨⟨by decide, by decide⟩, ?_⟩))
            refine ⟨p, _, _, rfl, rfl, S5 _ _ ha, ?_, ?_⟩
            · rw [List.length_map]; exact small1000 (by omega)
            · exact ⟨_, g, S ++ [i], _, _, _, (S4.trans S5).upd hp' _, by rw [upd_ne nlp]; exact S5 _ _ hf, by rw [upd_same, List.map_append]; rfl, R.pushB, by rw [List.length_append, List.length_singleton]; omega, by rw [List.length_append, List.length_singleton]; omega, rfl⟩
          · obtain ⟨S', t, eS⟩ := ex_last (S := S) (by omega)
            subst eS
            have ht : t < i := R.lt t (by simp)
            rw [List.length_append, List.length_singleton] at hle hpar
            (repeat (first | refine ⟨_, rfl, ?_⟩ | refine ⟨_, _, rfl, rfl, ?_⟩ | refine ⟨rfl, ?_⟩ | refine ⟨_, _, rfl, .inl (by assumption), ?_⟩ | refine ⟨Or.inl ⟨by decide, by decide⟩, ?_⟩ | refine ⟨(by show (0 : Int) < _; decide), ?_⟩ | refine ⟨⟨by decide, by decide⟩, ?_⟩))
            refine ⟨.inl ⟨rfl, _, SqL.of (S5 _ _ ha)⟩, ?_⟩
            refine ⟨p, _, .int t, rfl, rfl, S5 _ _ ha, by simp, ?_⟩
            (repeat (first | refine ⟨_, rfl, ?_⟩ | refine ⟨_, _, rfl, rfl, ?_⟩ | refine ⟨rfl, ?_⟩ | refine ⟨_, _, rfl, .inl (by assumption), ?_⟩ | refine ⟨Or.inl ⟨by decide, by decide⟩, ?_⟩ | refine ⟨(by show (0 : Int) < _; decide), ?_⟩ | refine ⟨⟨by decide, by decide⟩, ?_⟩))
            refine ⟨l, _, _, i, rfl, rfl, (by rw [upd_ne nlp]; exact S5 _ _ hf), ixN_nat (by rw [List.length_map, tab_length]; omega), ?_⟩
            (repeat (first | refine ⟨_, rfl, ?_⟩ | refine ⟨_, _, rfl, rfl, ?_⟩ | refine ⟨rfl, ?_⟩ | refine ⟨_, _, rfl, .inl (by assumption), ?_⟩ | refine ⟨Or.inl ⟨by decide, by decide⟩, ?_⟩ | refine ⟨(by show (0 : Int) < _; decide), ?_⟩ | refine ⟨⟨by decide, by decide⟩, ?_⟩))
            refine ⟨l, _, _, t, rfl, rfl, upd_same, ixN_nat (by rw [List.length_set, List.length_map, tab_length]; omega), ?_⟩
            refine ⟨_, put (put g i t) t i, S', _, _, _, (((S4.trans S5).upd hp' _).upd hl' _).upd hl' _, ?_, ?_, R.popB, by omega, by omega, rfl⟩
            · rw [upd_same, ← tab_set (show t < 2 * m by omega), ← tab_set (show i < 2 * m by omega), List.map_set, List.map_set]
            · rw [upd_ne (Ne.symm nlp), upd_ne (Ne.symm nlp), upd_same, List.map_append, List.map_cons, List.map_nil, List.dropLast_concat]
      · (try refine iteF ?_)
        have c1' : ¬ S.length < 2 * m - i := fun z => c1 (decide_eq_true (by omega))
        have S5 : Same H' H' := Same.refl _
        obtain ⟨S', t, eS⟩ := ex_last (S := S) (by omega)
        subst eS
        have ht : t < i := R.lt t (by simp)
        rw [List.length_append, List.length_singleton] at hle hpar
        (repeat (first | refine ⟨_, rfl, ?_⟩ | refine ⟨_, _, rfl, rfl, ?_⟩ | refine ⟨rfl, ?_⟩ | refine ⟨_, _, rfl, .inl (by assumption), ?_⟩ | refine ⟨Or.inl ⟨by decide, by decide⟩, ?_⟩ | refine ⟨(by show (0 : Int) < _; decide), ?_⟩ | refine ⟨⟨by decide, by decide⟩, ?_⟩))
        refine ⟨.inl ⟨rfl, _, SqL.of (S5 _ _ ha)⟩, ?_⟩
        refine ⟨p, _, .int t, rfl, rfl, S5 _ _ ha, by simp, ?_⟩
        (repeat (first | refine ⟨_, rfl, ?_⟩ | refine ⟨_, _, rfl, rfl, ?_⟩ | refine ⟨rfl, ?_⟩ | refine ⟨_, _, rfl, .inl (by assumption), ?_⟩ | refine ⟨Or.inl ⟨by decide, by decide⟩, ?_⟩ | refine ⟨(by show (0 : Int) < _; decide), ?_⟩ | refine ⟨⟨by decide, by decide⟩, ?_⟩))
        refine ⟨l, _, _, i, rfl, rfl, (by rw [upd_ne nlp]; exact S5 _ _ hf), ixN_nat (by rw [List.length_map, tab_length]; omega), ?_⟩
        (repeat (first | refine ⟨_, rfl, ?_⟩ | refine ⟨_, _, rfl, rfl, ?_⟩ | refine ⟨rfl, ?_⟩ | refine ⟨_, _, rfl, .inl (by assumption), ?_⟩ | refine ⟨Or.inl ⟨by decide, by decide⟩, ?_⟩ | refine ⟨(by show (0 : Int) < _; decide), ?_⟩ | refine ⟨⟨by decide, by decide⟩, ?_⟩))
        refine ⟨l, _, _, t, rfl, rfl, upd_same, ixN_nat (by rw [List.length_set, List.length_map, tab_length]; omega), ?_⟩
        refine ⟨_, put (put g i t) t i, S', _, _, _, (((S4.trans S5).upd hp' _).upd hl' _).upd hl' _, ?_, ?_, R.popB, by omega, by omega, rfl⟩
        · rw [upd_same, ← tab_set (show t < 2 * m by omega), ← tab_set (show i < 2 * m by omega), List.map_set, List.map_set]
        · rw [upd_ne (Ne.symm nlp), upd_ne (Ne.symm nlp), upd_same, List.map_append, List.map_cons, List.map_nil, List.dropLast_concat]
  · rintro σ H' ⟨b, g, S, u, v, x, S4, hf, ha, R, hle, hpar, rfl⟩
    have hS0 : S = [] := List.eq_nil_of_length_eq_zero (by omega)
    subst hS0
    (repeat (first | refine ⟨_, rfl, ?_⟩ | refine ⟨_, _, rfl, rfl, ?_⟩ | refine ⟨rfl, ?_⟩ | refine ⟨_, _, rfl, .inl (by assumption), ?_⟩ | refine ⟨Or.inl ⟨by decide, by decide⟩, ?_⟩ | refine ⟨(by show (0 : Int) < _; decide), ?_⟩ | refine ⟨⟨by decide, by decide⟩, ?_⟩))
    exact q l H' g S4 hl' R.done.1 hf

def sp_law_good (K : PySem.W.Frag) : Sp := fun vs H Q _ => ∃ (a : Addr) (xs : List Int), vs = [.ref a] ∧ SqL K H a (xs.map V.int) ∧ xs.length ≤ 1000 ∧ Q (.bl (isArcsM xs)) H
theorem good_end {xs : List Int} (h1 : isLenM xs.length = true) (h : ∀ k, k < xs.length → leadsBackM xs k = true ∧ ∀ j, j < k → ¬ ((k : Int) < xs.getD k 0 ∧ (k : Int) < xs.getD j 0 ∧ xs.getD j 0 < xs.getD k 0)) : isArcsM xs = true := by
  unfold isArcsM
  rw [h1]
  have h2 : allBackM xs = true := List.all_eq_true.mpr fun j hj => (h j (List.mem_range.mp hj)).1
  have h3 : noCrossM xs = true := by
    unfold noCrossM
    rw [decide_eq_true_eq]
    intro i hi j hj ⟨c1, c2, c3⟩
    exact (h j hj).2 i c1 ⟨by omega, c2, c3⟩
  rw [h2, h3]
  rfl
theorem good_no1 {xs : List Int} {k : Nat} (hk : k < xs.length) (h : leadsBackM xs k = false) : isArcsM xs = false := by
  have : allBackM xs = false := by
    cases e : allBackM xs with
    | false => rfl
    | true => rw [List.all_eq_true.mp e k (List.mem_range.mpr hk)] at h; cases h
  unfold isArcsM
  rw [this]
  simp
theorem good_no2 {xs : List Int} {k j : Nat} (hk : k < xs.length) (hj : j < k) (h : (k : Int) < xs.getD j 0 ∧ xs.getD j 0 < xs.getD k 0) : isArcsM xs = false := by
  have : noCrossM xs = false := by
    unfold noCrossM
    rw [decide_eq_false_iff_not]
    intro z
    exact z j (by omega) k hk ⟨hj, h.1, h.2⟩
  unfold isArcsM
  rw [this]
  simp
theorem ok_law_good (F : FunD K "_law_good" "_law_good" s_law_good dV f fd) (mlen : mg "len" = none) (mrange : mg "range" = none) : FnOk P w K mg base CX0 1 f fd ["some"] (sp_law_good K) := by
  refine F.ok (k := 0) sc_law_good (fun vs H Q E h => ?_) (fun cdv A outer s H vs Q E hr h => ?_)
  · obtain ⟨_, _, rfl, _⟩ := h; rfl
  obtain ⟨a, xs, rfl, hS, hz, q⟩ := h
  have nd := sc_law_good.nd
  refine ⟨_, (pss_cons (ps_if (PW.pt (pw_or (pt_cmpR op_lt (pe_callB call_len_seq rfl mlen PySem.boot_len (pa_cons (pv 0) pa_nil)) pe_int (nomark _)) (pw_or (pt_cmpR op_gt (pe_callB call_len_seq rfl mlen PySem.boot_len (pa_cons (pv 0) pa_nil)) pe_int (nomark _)) (pw_or1 (pt_cmpR op_eq (pe_op op_mod (pe_callB call_len_seq rfl mlen PySem.boot_len (pa_cons (pv 0) pa_nil)) pe_int) pe_int (nomark _)))))) (pss_one (ps_ret pe_bl)) pss_nil)
  (pss_cons (ps_for PassesOwn.never rfl (pi_range1 rfl mrange (pa_cons (pe_callB call_len_seq rfl mlen PySem.boot_len (pa_cons (pv 0) pa_nil)) pa_nil)) (pg_name (i := 1) nd rfl (Or.inl rfl)) (pss_cons (ps_if (PW.pt (pw_or (pt_not (pt_chain op_le op_lt pe_int (pe_ix ix_list (pv 0) (pv 1) (fun _ _ => rfl)) (pe_callB call_len_seq rfl mlen PySem.boot_len (pa_cons (pv 0) pa_nil)))) (pw_or (pt_cmpR op_eq (pe_ix ix_list (pv 0) (pv 1) (fun _ _ => rfl)) (pv 1) (nomark _)) (pw_or1 (pt_cmpR op_ne (pe_ix ix_list (pv 0) (pe_ix ix_list (pv 0) (pv 1) (fun _ _ => rfl)) (fun _ _ => rfl)) (pv 1) (nomark _)))))) (pss_one (ps_ret pe_bl)) pss_nil)
  (pss_one (ps_for PassesOwn.never rfl (pi_range1 rfl mrange (pa_cons (pv 1) pa_nil)) (pg_name (i := 2) nd rfl (Or.inl rfl)) (pss_one (ps_if (PW.pt (pw_and (pt_cmpR op_gt (pe_ix ix_list (pv 0) (pv 1) (fun _ _ => rfl)) (pv 1) (nomark _)) (pw_and1 (pt_chain3 op_lt op_lt op_lt (pv 2) (pv 1) (pe_ix ix_list (pv 0) (pv 2) (fun _ _ => rfl)) (pe_ix ix_list (pv 0) (pv 1) (fun _ _ => rfl)))))) (pss_one (ps_ret pe_bl)) pss_nil))))))
  (pss_one (ps_ret pe_bl)))), ?_⟩
  have hl : (xs.map V.int).length = xs.length := List.length_map _
  have bad : isLenM xs.length = false → Q (.bl false) H := fun e => toB q (by unfold isArcsM; rw [e]; rfl)
  (repeat (first | refine ⟨_, rfl, ?_⟩ | refine ⟨_, _, rfl, rfl, ?_⟩ | refine ⟨rfl, ?_⟩ | refine ⟨_, _, rfl, .inl (by assumption), ?_⟩ | refine ⟨Or.inl ⟨by decide, by decide⟩, ?_⟩ | refine ⟨(by show (0 : Int) < _; decide), ?_⟩ | refine ⟨⟨by decide, by decide⟩, ?_⟩))
  rw [hl]
  refine ite2 (fun c => ?_) (fun c => ?_)
  · (try refine iteT ?_)
    exact bad (by have := of_decide_eq_true c; unfold isLenM; simp; omega)
  have c' : ¬ (xs.length : Int) < 2 := fun z => c (decide_eq_true z)
  (repeat (first | refine ⟨_, rfl, ?_⟩ | refine ⟨_, _, rfl, rfl, ?_⟩ | refine ⟨rfl, ?_⟩ | refine ⟨_, _, rfl, .inl (by assumption), ?_⟩ | refine ⟨Or.inl ⟨by decide, by decide⟩, ?_⟩ | refine ⟨(by show (0 : Int) < _; decide), ?_⟩ | refine ⟨⟨by decide, by decide⟩, ?_⟩))
  rw [hl]
  refine ite2 (fun d => ?_) (fun d => ?_)
  · (try refine iteT ?_)
    exact bad (by have := of_decide_eq_true d; unfold isLenM; simp; omega)
  have d' : ¬ (40 : Int) < xs.length := fun z => d (decide_eq_true z)
  (repeat (first | refine ⟨_, rfl, ?_⟩ | refine ⟨_, _, rfl, rfl, ?_⟩ | refine ⟨rfl, ?_⟩ | refine ⟨_, _, rfl, .inl (by assumption), ?_⟩ | refine ⟨Or.inl ⟨by decide, by decide⟩, ?_⟩ | refine ⟨(by show (0 : Int) < _; decide), ?_⟩ | refine ⟨⟨by decide, by decide⟩, ?_⟩))
  rw [hl]
  refine ite2 (fun e => ?_) (fun e => ?_)
  · have e1 : (xs.length : Int) % 2 = 1 := V.int.inj (of_decide_eq_true e)
    exact bad (by unfold isLenM; simp; omega)
  have e' : (xs.length : Int) % 2 = 0 := by
    have : ¬ (xs.length : Int) % 2 = 1 := fun z => e (decide_eq_true (congrArg V.int z))
    omega
  have hL : isLenM xs.length = true := by unfold isLenM; simp; omega
  (repeat (first | refine ⟨_, rfl, ?_⟩ | refine ⟨_, _, rfl, rfl, ?_⟩ | refine ⟨rfl, ?_⟩ | refine ⟨_, _, rfl, .inl (by assumption), ?_⟩ | refine ⟨Or.inl ⟨by decide, by decide⟩, ?_⟩ | refine ⟨(by show (0 : Int) < _; decide), ?_⟩ | refine ⟨⟨by decide, by decide⟩, ?_⟩))
  rw [hl]
  refine ⟨by omega, by omega, ?_⟩
  rw [Int.toNat_natCast]
  have get : ∀ i : Nat, i < xs.length → xs[((i : Nat) : Int).toNat]? = some (xs.getD i 0) := fun i hi => by
    rw [Int.toNat_natCast, List.getD_eq_getElem?_getD, List.getElem?_eq_getElem hi]; rfl
  refine for_range (fun i σ H' => H' = H ∧ (∃ u v, σ = [some (.ref a), u, v]) ∧ ∀ k, k < i → leadsBackM xs k = true ∧ ∀ j, j < k → ¬ ((k : Int) < xs.getD k 0 ∧ (k : Int) < xs.getD j 0 ∧ xs.getD j 0 < xs.getD k 0)) ⟨rfl, ⟨_, _, rfl⟩, fun k h => absurd h (Nat.not_lt_zero _)⟩ ?_ ?_
  · rintro i σ H' hi ⟨rfl, ⟨u, v, rfl⟩, hb⟩
    have e0 : (0 : Int) + (i : Int) = i := by omega
    rw [e0]
    -- the three tests in turn
    have no : leadsBackM xs i = false → Q (.bl false) H' := fun e => toB q (good_no1 hi e)
    (repeat (first | refine ⟨_, rfl, ?_⟩ | refine ⟨_, _, rfl, rfl, ?_⟩ | refine ⟨rfl, ?_⟩ | refine ⟨_, _, rfl, .inl (by assumption), ?_⟩ | refine ⟨Or.inl ⟨by decide, by decide⟩, ?_⟩ | refine ⟨(by show (0 : Int) < _; decide), ?_⟩ | refine ⟨⟨by decide, by decide⟩, ?_⟩))
    refine ⟨a, _, _, _, rfl, rfl, hS, atI_int (by omega) (get i hi), ?_⟩
    (repeat (first | refine ⟨_, rfl, ?_⟩ | refine ⟨_, _, rfl, rfl, ?_⟩ | refine ⟨rfl, ?_⟩ | refine ⟨_, _, rfl, .inl (by assumption), ?_⟩ | refine ⟨Or.inl ⟨by decide, by decide⟩, ?_⟩ | refine ⟨(by show (0 : Int) < _; decide), ?_⟩ | refine ⟨⟨by decide, by decide⟩, ?_⟩))
    refine ite2 (fun t1 => ?y_t1) (fun t1 => ?n_t1)
    case n_t1 =>
      have t1' : ¬ (0 : Int) ≤ xs.getD i 0 := fun z => t1 (decide_eq_true z)
      (repeat (first | refine ⟨_, rfl, ?_⟩ | refine ⟨_, _, rfl, rfl, ?_⟩ | refine ⟨rfl, ?_⟩ | refine ⟨_, _, rfl, .inl (by assumption), ?_⟩ | refine ⟨Or.inl ⟨by decide, by decide⟩, ?_⟩ | refine ⟨(by show (0 : Int) < _; decide), ?_⟩ | refine ⟨⟨by decide, by decide⟩, ?_⟩))
      (try refine iteT ?_)
      exact no (by unfold leadsBackM; rw [Int.toNat_natCast, decide_eq_false t1']; rfl)
    have t1' : (0 : Int) ≤ xs.getD i 0 := of_decide_eq_true t1
    (repeat (first | refine ⟨_, rfl, ?_⟩ | refine ⟨_, _, rfl, rfl, ?_⟩ | refine ⟨rfl, ?_⟩ | refine ⟨_, _, rfl, .inl (by assumption), ?_⟩ | refine ⟨Or.inl ⟨by decide, by decide⟩, ?_⟩ | refine ⟨(by show (0 : Int) < _; decide), ?_⟩ | refine ⟨⟨by decide, by decide⟩, ?_⟩))
    rw [hl]
    refine ite2 (fun t2 => ?_) (fun t2 => ?_)
    · have t2' : ¬ xs.getD i 0 < (xs.length : Int) := fun z => by
        rw [decide_eq_true z] at t2; cases t2
      (try refine iteT ?_)
      exact no (by unfold leadsBackM; rw [Int.toNat_natCast, decide_eq_false t2']; simp)
    have t2' : xs.getD i 0 < (xs.length : Int) := by
      cases z : decide (xs.getD i 0 < (xs.length : Int)) with
      | true => exact of_decide_eq_true z
      | false => rw [z] at t2; exact absurd rfl t2
    (repeat (first | refine ⟨_, rfl, ?_⟩ | refine ⟨_, _, rfl, rfl, ?_⟩ | refine ⟨rfl, ?_⟩ | refine ⟨_, _, rfl, .inl (by assumption), ?_⟩ | refine ⟨Or.inl ⟨by decide, by decide⟩, ?_⟩ | refine ⟨(by show (0 : Int) < _; decide), ?_⟩ | refine ⟨⟨by decide, by decide⟩, ?_⟩))
    refine ⟨a, _, _, _, rfl, rfl, hS, atI_int (by omega) (get i hi), ?_⟩
    (repeat (first | refine ⟨_, rfl, ?_⟩ | refine ⟨_, _, rfl, rfl, ?_⟩ | refine ⟨rfl, ?_⟩ | refine ⟨_, _, rfl, .inl (by assumption), ?_⟩ | refine ⟨Or.inl ⟨by decide, by decide⟩, ?_⟩ | refine ⟨(by show (0 : Int) < _; decide), ?_⟩ | refine ⟨⟨by decide, by decide⟩, ?_⟩))
    refine ite2 (fun t3 => ?_) (fun t3 => ?_)
    · have t3' : xs.getD i 0 = i := V.int.inj (of_decide_eq_true t3)
      (try refine iteT ?_)
      exact no (by unfold leadsBackM; rw [Int.toNat_natCast, decide_eq_false (show ¬ xs.getD i 0 ≠ (i : Int) from fun z => z t3')]; simp)
    have t3' : xs.getD i 0 ≠ i := fun z => t3 (decide_eq_true (congrArg V.int z))
    (repeat (first | refine ⟨_, rfl, ?_⟩ | refine ⟨_, _, rfl, rfl, ?_⟩ | refine ⟨rfl, ?_⟩ | refine ⟨_, _, rfl, .inl (by assumption), ?_⟩ | refine ⟨Or.inl ⟨by decide, by decide⟩, ?_⟩ | refine ⟨(by show (0 : Int) < _; decide), ?_⟩ | refine ⟨⟨by decide, by decide⟩, ?_⟩))
    refine ⟨a, _, _, _, rfl, rfl, hS, atI_int (by omega) (get i hi), ?_⟩
    have hgt : xs[(xs.getD i 0).toNat]? = some (xs.getD (xs.getD i 0).toNat 0) := by
      rw [List.getD_eq_getElem?_getD (l := xs) (i := (xs.getD i 0).toNat), List.getElem?_eq_getElem (by omega)]; rfl
    refine ⟨a, _, _, _, rfl, rfl, hS, atI_int t1' hgt, ?_⟩
    (repeat (first | refine ⟨_, rfl, ?_⟩ | refine ⟨_, _, rfl, rfl, ?_⟩ | refine ⟨rfl, ?_⟩ | refine ⟨_, _, rfl, .inl (by assumption), ?_⟩ | refine ⟨Or.inl ⟨by decide, by decide⟩, ?_⟩ | refine ⟨(by show (0 : Int) < _; decide), ?_⟩ | refine ⟨⟨by decide, by decide⟩, ?_⟩))
    refine ite2 (fun t4 => ?_) (fun t4 => ?_)
    · have t4' : xs.getD (xs.getD i 0).toNat 0 ≠ i := fun z => by
        rw [z] at t4; simp at t4
      exact no (by unfold leadsBackM; rw [Int.toNat_natCast, decide_eq_false t4']; simp)
    have t4' : xs.getD (xs.getD i 0).toNat 0 = i := by
      by_cases z : xs.getD (xs.getD i 0).toNat 0 = i
      · exact z
      · exfalso
        apply t4
        rw [decide_eq_false (fun y => z (V.int.inj y))]
        rfl
    have yes : leadsBackM xs i = true := by unfold leadsBackM; rw [Int.toNat_natCast, t4']; simp; exact ⟨by rw [← List.getD_eq_getElem?_getD]; exact t1', by rw [← List.getD_eq_getElem?_getD]; exact t2', by rw [← List.getD_eq_getElem?_getD]; exact t3'⟩
    (repeat (first | refine ⟨_, rfl, ?_⟩ | refine ⟨_, _, rfl, rfl, ?_⟩ | refine ⟨rfl, ?_⟩ | refine ⟨_, _, rfl, .inl (by assumption), ?_⟩ | refine ⟨Or.inl ⟨by decide, by decide⟩, ?_⟩ | refine ⟨(by show (0 : Int) < _; decide), ?_⟩ | refine ⟨⟨by decide, by decide⟩, ?_⟩))
    refine ⟨by omega, by omega, ?_⟩
    rw [Int.toNat_natCast]
    refine for_range (fun j σ H'' => H'' = H' ∧ (∃ v, σ = [some (.ref a), some (.int i), v]) ∧ ∀ j', j' < j → ¬ ((i : Int) < xs.getD i 0 ∧ (i : Int) < xs.getD j' 0 ∧ xs.getD j' 0 < xs.getD i 0)) ⟨rfl, ⟨_, rfl⟩, fun k h => absurd h (Nat.not_lt_zero _)⟩ ?_ ?_
    · rintro j σ H'' hj ⟨rfl, ⟨v, rfl⟩, hc⟩
      have e0 : (0 : Int) + (j : Int) = j := by omega
      rw [e0]
      have go : ¬ ((i : Int) < xs.getD i 0 ∧ (i : Int) < xs.getD j 0 ∧ xs.getD j 0 < xs.getD i 0) → ∀ j', j' < j + 1 → ¬ ((i : Int) < xs.getD i 0 ∧ (i : Int) < xs.getD j' 0 ∧ xs.getD j' 0 < xs.getD i 0) := fun z j' hj' => by
        by_cases y : j' = j
        · rw [y]; exact z
        · exact hc j' (by omega)
      (repeat (first | refine ⟨_, rfl, ?_⟩ | refine ⟨_, _, rfl, rfl, ?_⟩ | refine ⟨rfl, ?_⟩ | refine ⟨_, _, rfl, .inl (by assumption), ?_⟩ | refine ⟨Or.inl ⟨by decide, by decide⟩, ?_⟩ | refine ⟨(by show (0 : Int) < _; decide), ?_⟩ | refine ⟨⟨by decide, by decide⟩, ?_⟩))
      refine ⟨a, _, _, _, rfl, rfl, hS, atI_int (by omega) (get i hi), ?_⟩
      (repeat (first | refine ⟨_, rfl, ?_⟩ | refine ⟨_, _, rfl, rfl, ?_⟩ | refine ⟨rfl, ?_⟩ | refine ⟨_, _, rfl, .inl (by assumption), ?_⟩ | refine ⟨Or.inl ⟨by decide, by decide⟩, ?_⟩ | refine ⟨(by show (0 : Int) < _; decide), ?_⟩ | refine ⟨⟨by decide, by decide⟩, ?_⟩))
      refine ite2 (fun s1 => ?y_s1) (fun s1 => ?n_s1)
      case n_s1 =>
        have s1' : ¬ (i : Int) < xs.getD i 0 := fun z => s1 (decide_eq_true z)
        (try refine iteF ?_)
        exact ⟨rfl, ⟨_, rfl⟩, go fun z => s1' z.1⟩
      have s1' : (i : Int) < xs.getD i 0 := of_decide_eq_true s1
      (repeat (first | refine ⟨_, rfl, ?_⟩ | refine ⟨_, _, rfl, rfl, ?_⟩ | refine ⟨rfl, ?_⟩ | refine ⟨_, _, rfl, .inl (by assumption), ?_⟩ | refine ⟨Or.inl ⟨by decide, by decide⟩, ?_⟩ | refine ⟨(by show (0 : Int) < _; decide), ?_⟩ | refine ⟨⟨by decide, by decide⟩, ?_⟩))
      refine ite2 (fun s2 => ?y_s2) (fun s2 => ?n_s2)
      case n_s2 =>
        exact absurd (decide_eq_true (show (j : Int) < i by omega)) s2
      (repeat (first | refine ⟨_, rfl, ?_⟩ | refine ⟨_, _, rfl, rfl, ?_⟩ | refine ⟨rfl, ?_⟩ | refine ⟨_, _, rfl, .inl (by assumption), ?_⟩ | refine ⟨Or.inl ⟨by decide, by decide⟩, ?_⟩ | refine ⟨(by show (0 : Int) < _; decide), ?_⟩ | refine ⟨⟨by decide, by decide⟩, ?_⟩))
      refine ⟨a, _, _, _, rfl, rfl, hS, atI_int (by omega) (get j (by omega)), ?_⟩
      (repeat (first | refine ⟨_, rfl, ?_⟩ | refine ⟨_, _, rfl, rfl, ?_⟩ | refine ⟨rfl, ?_⟩ | refine ⟨_, _, rfl, .inl (by assumption), ?_⟩ | refine ⟨Or.inl ⟨by decide, by decide⟩, ?_⟩ | refine ⟨(by show (0 : Int) < _; decide), ?_⟩ | refine ⟨⟨by decide, by decide⟩, ?_⟩))
      refine ite2 (fun s3 => ?y_s3) (fun s3 => ?n_s3)
      case n_s3 =>
        have s3' : ¬ (i : Int) < xs.getD j 0 := fun z => s3 (decide_eq_true z)
        (try refine iteF ?_)
        exact ⟨rfl, ⟨_, rfl⟩, go fun z => s3' z.2.1⟩
      have s3' : (i : Int) < xs.getD j 0 := of_decide_eq_true s3
      (repeat (first | refine ⟨_, rfl, ?_⟩ | refine ⟨_, _, rfl, rfl, ?_⟩ | refine ⟨rfl, ?_⟩ | refine ⟨_, _, rfl, .inl (by assumption), ?_⟩ | refine ⟨Or.inl ⟨by decide, by decide⟩, ?_⟩ | refine ⟨(by show (0 : Int) < _; decide), ?_⟩ | refine ⟨⟨by decide, by decide⟩, ?_⟩))
      refine ⟨a, _, _, _, rfl, rfl, hS, atI_int (by omega) (get i hi), ?_⟩
      (repeat (first | refine ⟨_, rfl, ?_⟩ | refine ⟨_, _, rfl, rfl, ?_⟩ | refine ⟨rfl, ?_⟩ | refine ⟨_, _, rfl, .inl (by assumption), ?_⟩ | refine ⟨Or.inl ⟨by decide, by decide⟩, ?_⟩ | refine ⟨(by show (0 : Int) < _; decide), ?_⟩ | refine ⟨⟨by decide, by decide⟩, ?_⟩))
      refine ite2 (fun s4 => ?_) (fun s4 => ?_)
      · exact toB q (good_no2 hi hj ⟨s3', of_decide_eq_true s4⟩)
      · exact ⟨rfl, ⟨_, rfl⟩, go fun z => s4 (decide_eq_true z.2.2)⟩
    · rintro σ H'' ⟨rfl, ⟨v, rfl⟩, hc⟩
      refine ⟨rfl, ⟨_, _, rfl⟩, fun k hk => ?_⟩
      by_cases y : k = i
      · rw [y]; exact ⟨yes, hc⟩
      · exact hb k (by omega)
  · rintro σ H' ⟨rfl, _, hb⟩
    exact toB q (good_end hL hb)

-- CUT 4 6
def sp_law_names (K : PySem.W.Frag) : Sp := fun vs H Q _ => ∃ (p q : Addr) (n : Nat) (x y : Nat → Nat), vs = [.ref p, .ref q] ∧ SqL K H p ((tab (2 * n) x).map V.int) ∧ SqL K H q ((tab (2 * n) y).map V.int) ∧ Pairs (2 * n) x ∧ Pairs (2 * n) y ∧ 1 ≤ n ∧ n ≤ 20 ∧
  ∀ (d : Addr) (H' : Hp) (lab : Nat → Nat), Same H H' → H d = none → NamesAt H' d n lab → Lab n x y lab → (∀ e, e ∈ ties n x y → lab e.1 = lab e.2) → Q (.ref d) H'
section
variable {cdv : Value} {A : Around} {outer : List Env} {s : Shared} {H0 : Hp} {Q : VK} {E : XK}
theorem names_walk (hr : Room 0 (A.deeper (PyProof.Rows.envOfC "_law_names" (defScope s_law_names) s.heap.objs.size f cdv))) (mmin : mg "min" = none) :
    ∃ t : TS, PSs (cxOf CX0 P w K mg base ["one", "other", "size", "ties", "k", "j", "names", "more", "left", "right", "low"] "_law_names" (defScope s_law_names) f cdv A outer s H0 E).nox ((defBody s_law_names).drop 6) t ∧
      ∀ (H H2 : Hp) (p q lt d : Addr) (n : Nat) (x y : Nat → Nat) (as : List Addr) (u v : Option V), 1 ≤ n → n ≤ 20 → Pairs (2 * n) x → Pairs (2 * n) y → Same H H2 → H d = none → H2 lt = some (.lst (as.map V.ref)) → TiesAt H2 n as (ties n x y) → NamesAt H2 d n (fun p => p) →
        (∀ (H' : Hp) (lab : Nat → Nat), Same H H' → NamesAt H' d n lab → Lab n x y lab → (∀ e, e ∈ ties n x y → lab e.1 = lab e.2) → Q (.ref d) H') →
        t { nx := fun _ H' => Q .non H', rt := Q } [some (.ref p), some (.ref q), some (.int n), some (.ref lt), u, v, some (.ref d), none, none, none, none] H2 := by
  have nd := sc_law_names.nd
  have hu := hu_of hr
  refine ⟨_, (pss_cons (ps_set (i := 7) nd rfl (Or.inl rfl) pe_bl)
  (pss_cons (ps_while PassesOwn.never (pt_val (pv 7)) (pss_cons (ps_set (i := 7) nd rfl (Or.inl rfl) pe_bl)
  (pss_one (ps_for PassesOwn.never rfl (pi_list (pv 3)) (pg_tup rfl (pgs_cons (pg_name (i := 8) nd rfl (Or.inl rfl)) (pgs_cons (pg_name (i := 9) nd rfl (Or.inl rfl)) pgs_nil))) (pss_cons (ps_set (i := 10) nd rfl (Or.inl rfl) (pe_callB (call_min2 rfl) rfl mmin PyProof.Rows.boot_min (pa_cons (pe_dget hu (pv 6) (pv 8) (fun _ _ => rfl)) (pa_cons (pe_dget hu (pv 6) (pv 9) (fun _ _ => rfl)) pa_nil))))
  (pss_one (ps_if (PW.pt (pw_or (pt_cmpR op_ne (pe_dget hu (pv 6) (pv 8) (fun _ _ => rfl)) (pv 10) (nomark _)) (pw_or1 (pt_cmpR op_ne (pe_dget hu (pv 6) (pv 9) (fun _ _ => rfl)) (pv 10) (nomark _))))) (pss_cons (ps_dput hu (pv 6) (pv 8) (pv 10) rfl)
  (pss_cons (ps_dput hu (pv 6) (pv 9) (pv 10) rfl)
  (pss_one (ps_set (i := 7) nd rfl (Or.inl rfl) pe_bl)))) pss_nil)))))))
  (pss_one (ps_ret (pv 6))))), ?_⟩
  intro H H2 p q lt d n x y as u v n1 n2 X Y S2 zd elt hT hN0 qq
  obtain ⟨kvs0, ed0, _, _⟩ := id hN0
  have ltd : lt ≠ d := fun z => by rw [z, ed0] at elt; cases elt
  have toSame : ∀ {H' : Hp}, SameB d H2 H' → Same H H' := fun {H'} SB b o hb => SB b o (ne_of_none hb zd) (S2 b o hb)
  (repeat (first | refine ⟨_, rfl, ?_⟩ | refine ⟨_, _, rfl, rfl, ?_⟩ | refine ⟨rfl, ?_⟩ | refine ⟨_, _, rfl, .inl (by assumption), ?_⟩ | refine ⟨Or.inl ⟨by decide, by decide⟩, ?_⟩ | refine ⟨(by show (0 : Int) < _; decide), ?_⟩ | refine ⟨⟨by decide, by decide⟩, ?_⟩))
  refine ⟨fun m σ H' => ∃ (lab : Nat → Nat) (b : Bool) (w1 w2 w3 : Option V), Lab n x y lab ∧ NamesAt H' d n lab ∧ SameB d H2 H' ∧ m = (if b then sumL (4 * n) lab + 1 else 0) ∧ (b = false → ∀ e, e ∈ ties n x y → lab e.1 = lab e.2) ∧ σ = [some (.ref p), some (.ref q), some (.int n), some (.ref lt), u, v, some (.ref d), some (.bl b), w1, w2, w3],
    ⟨_, fun p => p, true, _, _, _, Lab.start, hN0, SameB.refl _ _, rfl, fun h => absurd h (by decide), rfl⟩, ?_⟩
  rintro m σ H3 ⟨lab, b, w1, w2, w3, L, hN, SB, rfl, agree, rfl⟩
  (repeat (first | refine ⟨_, rfl, ?_⟩ | refine ⟨_, _, rfl, rfl, ?_⟩ | refine ⟨rfl, ?_⟩ | refine ⟨_, _, rfl, .inl (by assumption), ?_⟩ | refine ⟨Or.inl ⟨by decide, by decide⟩, ?_⟩ | refine ⟨(by show (0 : Int) < _; decide), ?_⟩ | refine ⟨⟨by decide, by decide⟩, ?_⟩))
  cases b with
  | false =>
    refine iteF ?_
    (repeat (first | refine ⟨_, rfl, ?_⟩ | refine ⟨_, _, rfl, rfl, ?_⟩ | refine ⟨rfl, ?_⟩ | refine ⟨_, _, rfl, .inl (by assumption), ?_⟩ | refine ⟨Or.inl ⟨by decide, by decide⟩, ?_⟩ | refine ⟨(by show (0 : Int) < _; decide), ?_⟩ | refine ⟨⟨by decide, by decide⟩, ?_⟩))
    exact qq H3 lab (toSame SB) hN L (agree rfl)
  | true =>
    refine iteT ?_
    refine ⟨_, fun σ' H' h => h, ?_⟩
    have elt3 := SB _ _ ltd elt
    (repeat (first | refine ⟨_, rfl, ?_⟩ | refine ⟨_, _, rfl, rfl, ?_⟩ | refine ⟨rfl, ?_⟩ | refine ⟨_, _, rfl, .inl (by assumption), ?_⟩ | refine ⟨Or.inl ⟨by decide, by decide⟩, ?_⟩ | refine ⟨(by show (0 : Int) < _; decide), ?_⟩ | refine ⟨⟨by decide, by decide⟩, ?_⟩))
    refine ⟨⟨_, SqL.of elt3⟩, ?_⟩
    refine for_list (xs := as.map V.ref) (fun i σ H' => ∃ (lab' : Nat → Nat) (b' : Bool) (w1 w2 w3 : Option V), Lab n x y lab' ∧ NamesAt H' d n lab' ∧ SameB d H2 H' ∧ ((b' = false ∧ lab' = lab ∧ ∀ e, e ∈ (ties n x y).take i → lab e.1 = lab e.2) ∨ (b' = true ∧ sumL (4 * n) lab' < sumL (4 * n) lab)) ∧ σ = [some (.ref p), some (.ref q), some (.int n), some (.ref lt), u, v, some (.ref d), some (.bl b'), w1, w2, w3]) ?_ ?_ ?_ ?_
    · exact ⟨lab, false, _, _, _, L, hN, SB, .inl ⟨rfl, rfl, by simp⟩, rfl⟩
    · rintro i σ H' _ ⟨_, _, _, _, _, _, _, S', _⟩
      exact SqL.of (S' _ _ ltd elt)
    · rintro i xx σ H4 hx ⟨lab', b', w1, w2, w3, L', hN', SB', hst, rfl⟩
      rw [List.getElem?_map] at hx
      obtain ⟨tx, htx, rfl⟩ := Option.map_eq_some_iff.mp hx
      have hT4 := hT.sameB SB' ed0
      obtain ⟨e, he⟩ : ∃ e, (ties n x y)[i]? = some e := by
        have h1 := (List.getElem?_eq_some_iff.mp htx).1
        rw [hT.1] at h1
        exact ⟨_, List.getElem?_eq_getElem h1⟩
      obtain ⟨l, r, e1, e2, e3⟩ := hT4.2 i tx e htx he
      have gt := mem_ties.mp (List.mem_of_getElem? he)
      have ll := gt.lt X Y
      have tk : ∀ f, f ∈ (ties n x y).take (i + 1) → f ∈ (ties n x y).take i ∨ f = e := fun f hf => by
        rw [List.take_succ, he] at hf
        rcases List.mem_append.mp hf with z | z
        · exact .inl z
        · right; simpa using z
      refine ⟨tx, _, rfl, SqT.of e1, rfl, _, _, rfl, _, _, rfl, rfl, ?_⟩
      (repeat (first | refine ⟨_, rfl, ?_⟩ | refine ⟨_, _, rfl, rfl, ?_⟩ | refine ⟨rfl, ?_⟩ | refine ⟨_, _, rfl, .inl (by assumption), ?_⟩ | refine ⟨Or.inl ⟨by decide, by decide⟩, ?_⟩ | refine ⟨(by show (0 : Int) < _; decide), ?_⟩ | refine ⟨⟨by decide, by decide⟩, ?_⟩))
      refine ⟨d, _, rfl, hN'.get ll.1 e2, ?_⟩
      (repeat (first | refine ⟨_, rfl, ?_⟩ | refine ⟨_, _, rfl, rfl, ?_⟩ | refine ⟨rfl, ?_⟩ | refine ⟨_, _, rfl, .inl (by assumption), ?_⟩ | refine ⟨Or.inl ⟨by decide, by decide⟩, ?_⟩ | refine ⟨(by show (0 : Int) < _; decide), ?_⟩ | refine ⟨⟨by decide, by decide⟩, ?_⟩))
      refine ⟨d, _, rfl, hN'.get ll.2 e3, ?_⟩
      (repeat (first | refine ⟨_, rfl, ?_⟩ | refine ⟨_, _, rfl, rfl, ?_⟩ | refine ⟨rfl, ?_⟩ | refine ⟨_, _, rfl, .inl (by assumption), ?_⟩ | refine ⟨Or.inl ⟨by decide, by decide⟩, ?_⟩ | refine ⟨(by show (0 : Int) < _; decide), ?_⟩ | refine ⟨⟨by decide, by decide⟩, ?_⟩))
      refine ⟨_, _, rfl, ?_⟩
      have elow : (if ((lab' e.2 : Nat) : Int) < ((lab' e.1 : Nat) : Int) then ((lab' e.2 : Nat) : Int) else ((lab' e.1 : Nat) : Int)) = ((min (lab' e.1) (lab' e.2) : Nat) : Int) := by
        split <;> omega
      rw [elow]
      (repeat (first | refine ⟨_, rfl, ?_⟩ | refine ⟨_, _, rfl, rfl, ?_⟩ | refine ⟨rfl, ?_⟩ | refine ⟨_, _, rfl, .inl (by assumption), ?_⟩ | refine ⟨Or.inl ⟨by decide, by decide⟩, ?_⟩ | refine ⟨(by show (0 : Int) < _; decide), ?_⟩ | refine ⟨⟨by decide, by decide⟩, ?_⟩))
      refine ⟨d, _, rfl, hN'.get ll.1 e2, ?_⟩
      (repeat (first | refine ⟨_, rfl, ?_⟩ | refine ⟨_, _, rfl, rfl, ?_⟩ | refine ⟨rfl, ?_⟩ | refine ⟨_, _, rfl, .inl (by assumption), ?_⟩ | refine ⟨Or.inl ⟨by decide, by decide⟩, ?_⟩ | refine ⟨(by show (0 : Int) < _; decide), ?_⟩ | refine ⟨⟨by decide, by decide⟩, ?_⟩))
      have store : ∀ {D : Ends}, (lab' e.1 ≠ min (lab' e.1) (lab' e.2) ∨ lab' e.2 ≠ min (lab' e.1) (lab' e.2)) →
          (∀ H6, NamesAt H6 d n (lower lab' e.1 e.2) → SameB d H2 H6 → D.nx [some (.ref p), some (.ref q), some (.int n), some (.ref lt), u, v, some (.ref d), some (.bl b'), some (.ref l), some (.ref r), some (.int ((min (lab' e.1) (lab' e.2) : Nat) : Int))] H6) →
          sDPut (tVar 6) (tVar 8) (tVar 10) { D with nx := fun σ' H' => sDPut (tVar 6) (tVar 9) (tVar 10) D σ' H' } [some (.ref p), some (.ref q), some (.int n), some (.ref lt), u, v, some (.ref d), some (.bl b'), some (.ref l), some (.ref r), some (.int ((min (lab' e.1) (lab' e.2) : Nat) : Int))] H4 := fun {D} _ k => by
        obtain ⟨kvs, ek, el1, ev⟩ := id hN'
        refine ⟨_, rfl, _, rfl, _, rfl, d, _, rfl, DPut.t (k := kp n e.1) ek e2 (lt_line el1), ?_⟩
        have N5 := NamesAt.put (H := H4) (d := d) el1 ev (v := min (lab' e.1) (lab' e.2)) ll.1
        have SB5 := SB'.upd (.dT (putK kvs (kp n e.1) (.int ((min (lab' e.1) (lab' e.2) : Nat) : Int))))
        have rd : r ≠ d := fun z => by rw [z, ek] at e3; cases e3
        have e3' : upd H4 d (.dT (putK kvs (kp n e.1) (.int ((min (lab' e.1) (lab' e.2) : Nat) : Int)))) r = some (.tup ((kp n e.2).map kV)) := by rw [upd_ne rd]; exact e3
        generalize upd H4 d (.dT (putK kvs (kp n e.1) (.int ((min (lab' e.1) (lab' e.2) : Nat) : Int)))) = H5 at N5 SB5 e3' ⊢
        obtain ⟨kvs2, ek2, el2, ev2⟩ := id N5
        refine ⟨_, rfl, _, rfl, _, rfl, d, _, rfl, DPut.t (k := kp n e.2) ek2 e3' (lt_line el2), ?_⟩
        refine k _ ?_ (SB5.upd _)
        have := NamesAt.put (H := H5) (d := d) el2 ev2 (v := min (lab' e.1) (lab' e.2)) ll.2
        exact this
      have changed : ∀ (hc : lab' e.1 ≠ min (lab' e.1) (lab' e.2) ∨ lab' e.2 ≠ min (lab' e.1) (lab' e.2)), sumL (4 * n) (lower lab' e.1 e.2) < sumL (4 * n) lab := fun hc => by
        have h1 := lower_less (N := 4 * n) ll.1 ll.2 hc
        rcases hst with ⟨_, h2, _⟩ | ⟨_, h2⟩
        · rw [h2] at h1 ⊢; exact h1
        · omega
      refine ite2 (fun c1 => ?_) (fun c1 => ?_)
      · have c1' : lab' e.1 ≠ min (lab' e.1) (lab' e.2) := fun z => ne_yes c1 (by rw [← z])
        refine store (.inl c1') fun H6 N6 SB6 => ?_
        (repeat (first | refine ⟨_, rfl, ?_⟩ | refine ⟨_, _, rfl, rfl, ?_⟩ | refine ⟨rfl, ?_⟩ | refine ⟨_, _, rfl, .inl (by assumption), ?_⟩ | refine ⟨Or.inl ⟨by decide, by decide⟩, ?_⟩ | refine ⟨(by show (0 : Int) < _; decide), ?_⟩ | refine ⟨⟨by decide, by decide⟩, ?_⟩))
        exact ⟨lower lab' e.1 e.2, true, _, _, _, L'.lower ll.1 ll.2 (.one gt), N6, SB6, .inr ⟨rfl, changed (.inl c1')⟩, rfl⟩
      · have c1' : lab' e.1 = min (lab' e.1) (lab' e.2) := by have := ne_no c1; omega
        (repeat (first | refine ⟨_, rfl, ?_⟩ | refine ⟨_, _, rfl, rfl, ?_⟩ | refine ⟨rfl, ?_⟩ | refine ⟨_, _, rfl, .inl (by assumption), ?_⟩ | refine ⟨Or.inl ⟨by decide, by decide⟩, ?_⟩ | refine ⟨(by show (0 : Int) < _; decide), ?_⟩ | refine ⟨⟨by decide, by decide⟩, ?_⟩))
        refine ⟨d, _, rfl, hN'.get ll.2 e3, ?_⟩
        (repeat (first | refine ⟨_, rfl, ?_⟩ | refine ⟨_, _, rfl, rfl, ?_⟩ | refine ⟨rfl, ?_⟩ | refine ⟨_, _, rfl, .inl (by assumption), ?_⟩ | refine ⟨Or.inl ⟨by decide, by decide⟩, ?_⟩ | refine ⟨(by show (0 : Int) < _; decide), ?_⟩ | refine ⟨⟨by decide, by decide⟩, ?_⟩))
        refine ite2 (fun c2 => ?_) (fun c2 => ?_)
        · have c2' : lab' e.2 ≠ min (lab' e.1) (lab' e.2) := fun z => ne_yes c2 (by rw [← z])
          refine store (.inr c2') fun H6 N6 SB6 => ?_
          (repeat (first | refine ⟨_, rfl, ?_⟩ | refine ⟨_, _, rfl, rfl, ?_⟩ | refine ⟨rfl, ?_⟩ | refine ⟨_, _, rfl, .inl (by assumption), ?_⟩ | refine ⟨Or.inl ⟨by decide, by decide⟩, ?_⟩ | refine ⟨(by show (0 : Int) < _; decide), ?_⟩ | refine ⟨⟨by decide, by decide⟩, ?_⟩))
          exact ⟨lower lab' e.1 e.2, true, _, _, _, L'.lower ll.1 ll.2 (.one gt), N6, SB6, .inr ⟨rfl, changed (.inr c2')⟩, rfl⟩
        · have c2' : lab' e.2 = min (lab' e.1) (lab' e.2) := by have := ne_no c2; omega
          refine ⟨lab', b', _, _, _, L', hN', SB', ?_, rfl⟩
          rcases hst with ⟨h1, h2, h3⟩ | h
          · refine .inl ⟨h1, h2, fun f hf => ?_⟩
            rcases tk f hf with z | z
            · exact h3 f z
            · rw [z, ← h2]; omega
          · exact .inr h
    · rintro σ H4 ⟨lab', b', w1, w2, w3, L', hN', SB', hst, rfl⟩
      rw [List.length_map, hT.1, List.take_length] at hst
      rcases hst with ⟨h1, h2, h3⟩ | ⟨h1, h2⟩
      · subst h1
        exact ⟨0, by simp, lab', false, _, _, _, L', hN', SB', rfl, fun _ => by rw [h2]; exact h3, rfl⟩
      · subst h1
        exact ⟨sumL (4 * n) lab' + 1, by simp; omega, lab', true, _, _, _, L', hN', SB', rfl, fun h => absurd h (by decide), rfl⟩
theorem names_fill (hr : Room 0 (A.deeper (PyProof.Rows.envOfC "_law_names" (defScope s_law_names) s.heap.objs.size f cdv))) {t : TS}
    (h : PSs (cxOf CX0 P w K mg base ["one", "other", "size", "ties", "k", "j", "names", "more", "left", "right", "low"] "_law_names" (defScope s_law_names) f cdv A outer s H0 E).nox ((defBody s_law_names).drop 6) t)
    (qh : ∀ (H H2 : Hp) (p q lt d : Addr) (n : Nat) (x y : Nat → Nat) (as : List Addr) (u v : Option V), 1 ≤ n → n ≤ 20 → Pairs (2 * n) x → Pairs (2 * n) y → Same H H2 → H d = none → H2 lt = some (.lst (as.map V.ref)) → TiesAt H2 n as (ties n x y) → NamesAt H2 d n (fun p => p) →
        (∀ (H' : Hp) (lab : Nat → Nat), Same H H' → NamesAt H' d n lab → Lab n x y lab → (∀ e, e ∈ ties n x y → lab e.1 = lab e.2) → Q (.ref d) H') →
        t { nx := fun _ H' => Q .non H', rt := Q } [some (.ref p), some (.ref q), some (.int n), some (.ref lt), u, v, some (.ref d), none, none, none, none] H2) (mrange : mg "range" = none) :
    ∃ t : TS, PSs (cxOf CX0 P w K mg base ["one", "other", "size", "ties", "k", "j", "names", "more", "left", "right", "low"] "_law_names" (defScope s_law_names) f cdv A outer s H0 E).nox ((defBody s_law_names).drop 4) t ∧
      ∀ (H H1 : Hp) (p q lt : Addr) (n : Nat) (x y : Nat → Nat) (as : List Addr) (u v : Option V), 1 ≤ n → n ≤ 20 → Pairs (2 * n) x → Pairs (2 * n) y → Same H H1 → H1 lt = some (.lst (as.map V.ref)) → TiesAt H1 n as (ties n x y) →
        (∀ (d : Addr) (H' : Hp) (lab : Nat → Nat), Same H H' → H d = none → NamesAt H' d n lab → Lab n x y lab → (∀ e, e ∈ ties n x y → lab e.1 = lab e.2) → Q (.ref d) H') →
        t { nx := fun _ H' => Q .non H', rt := Q } [some (.ref p), some (.ref q), some (.int n), some (.ref lt), u, v, none, none, none, none, none] H1 := by
  have nd := sc_law_names.nd
  have hu := hu_of hr
  refine ⟨_, (pss_cons (ps_set (i := 6) nd rfl (Or.inl rfl) pe_dnewT)
  (pss_cons (ps_for PassesOwn.never rfl (pi_range1 rfl mrange (pa_cons (pe_op op_mul pe_int (pv 2)) pa_nil)) (pg_name (i := 4) nd rfl (Or.inl rfl)) (pss_cons (ps_dput hu (pv 6) (pe_tup (pa_cons pe_str (pa_cons (pv 4) pa_nil))) (pv 4) rfl)
  (pss_one (ps_dput hu (pv 6) (pe_tup (pa_cons pe_str (pa_cons (pv 4) pa_nil))) (pe_op op_add (pe_op op_mul pe_int (pv 2)) (pv 4)) rfl))))
  h)), ?_⟩
  intro H H1 p q lt n x y as u v n1 n2 X Y S1 elt hT qq
  have e2 : ((2 : Int) * (n : Int)).toNat = 2 * n := by omega
  (repeat (first | refine ⟨_, rfl, ?_⟩ | refine ⟨_, _, rfl, rfl, ?_⟩ | refine ⟨rfl, ?_⟩ | refine ⟨_, _, rfl, .inl (by assumption), ?_⟩ | refine ⟨Or.inl ⟨by decide, by decide⟩, ?_⟩ | refine ⟨(by show (0 : Int) < _; decide), ?_⟩ | refine ⟨⟨by decide, by decide⟩, ?_⟩))
  intro d hd
  have zd : H d = none := S1.free hd
  have S2 := same_upd_new hd (.dT [])
  (repeat (first | refine ⟨_, rfl, ?_⟩ | refine ⟨_, _, rfl, rfl, ?_⟩ | refine ⟨rfl, ?_⟩ | refine ⟨_, _, rfl, .inl (by assumption), ?_⟩ | refine ⟨Or.inl ⟨by decide, by decide⟩, ?_⟩ | refine ⟨(by show (0 : Int) < _; decide), ?_⟩ | refine ⟨⟨by decide, by decide⟩, ?_⟩))
  refine ⟨by omega, by omega, ?_⟩
  rw [e2]
  refine for_range (fun k σ H' => ∃ (kvs : List (List Key × V)) (u : Option V), H' d = some (.dT kvs) ∧ kvs.length ≤ 2 * k ∧ (∀ j, j < k → valV kvs (kp n j) = some (.int (j : Nat)) ∧ valV kvs (kp n (2 * n + j)) = some (.int ((2 * n + j : Nat) : Int))) ∧ Same H1 H' ∧ σ = [some (.ref p), some (.ref q), some (.int n), some (.ref lt), u, v, some (.ref d), none, none, none, none]) ?_ ?_ ?_
  · exact ⟨[], _, upd_same, by simp, fun j hj => absurd hj (Nat.not_lt_zero _), S2, rfl⟩
  · rintro k σ H3 hk ⟨kvs, u', ed, hl, hv, S3, rfl⟩
    have e0 : (0 : Int) + (k : Int) = k := by omega
    rw [e0]
    (repeat (first | refine ⟨_, rfl, ?_⟩ | refine ⟨_, _, rfl, rfl, ?_⟩ | refine ⟨rfl, ?_⟩ | refine ⟨_, _, rfl, .inl (by assumption), ?_⟩ | refine ⟨Or.inl ⟨by decide, by decide⟩, ?_⟩ | refine ⟨(by show (0 : Int) < _; decide), ?_⟩ | refine ⟨⟨by decide, by decide⟩, ?_⟩))
    refine ⟨(by show 2 ≤ sizeLine; decide), fun t1 ht1 => ?_⟩
    have T1 := same_upd_new ht1 (.tup [.str "one", .int (k : Nat)])
    have kt1 : upd H3 t1 (.tup [.str "one", .int (k : Nat)]) t1 = some (.tup ((kp n k).map kV)) := by rw [upd_same, kp_one hk]
    refine ⟨d, _, rfl, DPut.t (k := kp n k) (T1 _ _ ed) kt1 (lt_line (by omega)), ?_⟩
    have nd1 : t1 ≠ d := (ne_of_none ed ht1).symm
    have S4 : Same H1 (upd (upd H3 t1 (.tup [.str "one", .int (k : Nat)])) d (.dT (putK kvs (kp n k) (.int (k : Nat))))) := (S3.trans T1).upd hd _
    have ed4 : upd (upd H3 t1 (.tup [.str "one", .int (k : Nat)])) d (.dT (putK kvs (kp n k) (.int (k : Nat)))) d = some (.dT (putK kvs (kp n k) (.int (k : Nat)))) := upd_same
    generalize upd (upd H3 t1 (.tup [.str "one", .int (k : Nat)])) d (.dT (putK kvs (kp n k) (.int (k : Nat)))) = H4 at S4 ed4 ⊢
    (repeat (first | refine ⟨_, rfl, ?_⟩ | refine ⟨_, _, rfl, rfl, ?_⟩ | refine ⟨rfl, ?_⟩ | refine ⟨_, _, rfl, .inl (by assumption), ?_⟩ | refine ⟨Or.inl ⟨by decide, by decide⟩, ?_⟩ | refine ⟨(by show (0 : Int) < _; decide), ?_⟩ | refine ⟨⟨by decide, by decide⟩, ?_⟩))
    refine ⟨(by show 2 ≤ sizeLine; decide), fun t2 ht2 => ?_⟩
    have T2 := same_upd_new ht2 (.tup [.str "other", .int (k : Nat)])
    have kt2 : upd H4 t2 (.tup [.str "other", .int (k : Nat)]) t2 = some (.tup ((kp n (2 * n + k)).map kV)) := by rw [upd_same, kp_other]
    have l1 := length_putK kvs (kp n k) (.int (k : Nat))
    refine ⟨d, _, rfl, DPut.t (k := kp n (2 * n + k)) (T2 _ _ ed4) kt2 (lt_line (by omega)), ?_⟩
    have ev : (2 : Int) * (n : Int) + (k : Int) = ((2 * n + k : Nat) : Int) := by omega
    refine ⟨_, _, upd_same, ?_, fun j hj => ?_, (S4.trans T2).upd hd _, rfl⟩
    · have l2 := length_putK (putK kvs (kp n k) (.int (k : Nat))) (kp n (2 * n + k)) (.int ((2 : Int) * (n : Int) + (k : Int)))
      have l3 : (putK (putK kvs (kp n k) (.int (k : Nat))) (kp n (2 * n + k)) ((fun i j => V.int (i + j)) ((fun i j => i * j) 2 (n : Int)) (k : Int))).length ≤ (putK kvs (kp n k) (.int (k : Nat))).length + 1 := l2
      exact Nat.le_trans l3 (by omega)
    · show valV (putK (putK kvs (kp n k) (.int (k : Nat))) (kp n (2 * n + k)) (.int ((2 : Int) * (n : Int) + (k : Int)))) (kp n j) = _ ∧ valV (putK (putK kvs (kp n k) (.int (k : Nat))) (kp n (2 * n + k)) (.int ((2 : Int) * (n : Int) + (k : Int)))) (kp n (2 * n + j)) = _
      rw [ev, valV_put, valV_put, valV_put, valV_put, if_neg (fun z => by have := kp_inj z; omega), if_neg (show ¬ kp n (2 * n + j) = kp n k from fun z => by have := kp_inj z; omega)]
      by_cases c : j = k
      · subst c; rw [if_pos rfl, if_pos rfl]; exact ⟨rfl, rfl⟩
      · rw [if_neg (fun z => c (kp_inj z)), if_neg (fun z => c (by have := kp_inj z; omega))]
        exact hv j (by omega)
  · rintro σ H3 ⟨kvs, u', ed, hl, hv, S3, rfl⟩
    refine qh H H3 p q lt d n x y as _ _ n1 n2 X Y (S1.trans S3) zd (S3 _ _ elt) (hT.same S3) ⟨kvs, ed, by omega, fun j hj => ?_⟩ (fun H' lab a b c e => qq d H' lab a zd b c e)
    by_cases c : j < 2 * n
    · exact (hv j c).1
    · have := (hv (j - 2 * n) (by omega)).2
      rw [show 2 * n + (j - 2 * n) = j by omega] at this
      exact this
end
theorem ok_law_names (F : FunD K "_law_names" "_law_names" s_law_names dV f fd) (mlen : mg "len" = none) (mrange : mg "range" = none) (mmin : mg "min" = none) : FnOk P w K mg base CX0 1 f fd ["one", "other"] (sp_law_names K) := by
  refine F.ok (k := 0) sc_law_names (fun vs H Q E h => ?_) (fun cdv A outer s H vs Q E hr h => ?_)
  · obtain ⟨_, _, _, _, _, rfl, _⟩ := h; rfl
  obtain ⟨p, q, n, x, y, rfl, hP, hQ, X, Y, n1, n2, qq⟩ := h
  have nd := sc_law_names.nd
  have hu := hu_of hr
  obtain ⟨t2, h2, q2⟩ := names_walk (H0 := H) (E := E) (outer := outer) (Q := Q) hr mmin
  obtain ⟨t, h, q1⟩ := names_fill (H0 := H) (E := E) (outer := outer) (Q := Q) hr h2 q2 mrange
  refine ⟨_, (pss_cons (ps_set (i := 2) nd rfl (Or.inl rfl) (pe_op op_fdiv (pe_callB call_len_seq rfl mlen PySem.boot_len (pa_cons (pv 0) pa_nil)) pe_int))
  (pss_cons (ps_set (i := 3) nd rfl (Or.inl rfl) (pe_lst pa_nil))
  (pss_cons (ps_for PassesOwn.never rfl (pi_range1 rfl mrange (pa_cons (pe_op op_mul pe_int (pv 2)) pa_nil)) (pg_name (i := 4) nd rfl (Or.inl rfl)) (pss_cons (ps_expr (pe_bm PySem.F.plainAttrs_list PySem.F.slot_list_append PySem.F.type_list_append mt_append (pv 3) (pa_cons (pe_tup (pa_cons (pe_tup (pa_cons pe_str (pa_cons (pv 4) pa_nil))) (pa_cons (pe_tup (pa_cons pe_str (pa_cons (pe_ix ix_list (pv 0) (pv 4) (fun _ _ => rfl)) pa_nil))) pa_nil))) pa_nil)))
  (pss_one (ps_expr (pe_bm PySem.F.plainAttrs_list PySem.F.slot_list_append PySem.F.type_list_append mt_append (pv 3) (pa_cons (pe_tup (pa_cons (pe_tup (pa_cons pe_str (pa_cons (pv 4) pa_nil))) (pa_cons (pe_tup (pa_cons pe_str (pa_cons (pe_ix ix_list (pv 1) (pv 4) (fun _ _ => rfl)) pa_nil))) pa_nil))) pa_nil))))))
  (pss_cons (ps_for PassesOwn.never rfl (pi_range1 rfl mrange (pa_cons (pv 2) pa_nil)) (pg_name (i := 5) nd rfl (Or.inl rfl)) (pss_one (ps_expr (pe_bm PySem.F.plainAttrs_list PySem.F.slot_list_append PySem.F.type_list_append mt_append (pv 3) (pa_cons (pe_tup (pa_cons (pe_tup (pa_cons pe_str (pa_cons (pe_op op_sub (pe_op op_sub (pe_op op_mul pe_int (pv 2)) pe_int) (pv 5)) pa_nil))) (pa_cons (pe_tup (pa_cons pe_str (pa_cons (pv 5) pa_nil))) pa_nil))) pa_nil)))))
  h)))), ?_⟩
  have hl0 : ((tab (2 * n) x).map V.int).length = 2 * n := by rw [List.length_map, tab_length]
  have e2 : ((2 : Int) * (n : Int)).toNat = 2 * n := by omega
  have eh : ((2 * n : Nat) : Int) / 2 = (n : Int) := by omega
  have la : ∀ {z : Nat}, z < 2 * n → atI ((tab (2 * n) x).map V.int) (z : Int) = some (.int (x z : Nat)) := fun {z} hz => atI_int (by omega) (by rw [Int.toNat_natCast]; exact tab_get hz)
  have lb : ∀ {z : Nat}, z < 2 * n → atI ((tab (2 * n) y).map V.int) (z : Int) = some (.int (y z : Nat)) := fun {z} hz => atI_int (by omega) (by rw [Int.toNat_natCast]; exact tab_get hz)
  (repeat (first | refine ⟨_, rfl, ?_⟩ | refine ⟨_, _, rfl, rfl, ?_⟩ | refine ⟨rfl, ?_⟩ | refine ⟨_, _, rfl, .inl (by assumption), ?_⟩ | refine ⟨Or.inl ⟨by decide, by decide⟩, ?_⟩ | refine ⟨(by show (0 : Int) < _; decide), ?_⟩ | refine ⟨⟨by decide, by decide⟩, ?_⟩))
  rw [hl0]
  dsimp only
  rw [eh]
  refine ⟨by decide, fun lt hlt => ?_⟩
  have S1 := same_upd_new hlt (.lst [])
  (repeat (first | refine ⟨_, rfl, ?_⟩ | refine ⟨_, _, rfl, rfl, ?_⟩ | refine ⟨rfl, ?_⟩ | refine ⟨_, _, rfl, .inl (by assumption), ?_⟩ | refine ⟨Or.inl ⟨by decide, by decide⟩, ?_⟩ | refine ⟨(by show (0 : Int) < _; decide), ?_⟩ | refine ⟨⟨by decide, by decide⟩, ?_⟩))
  refine ⟨by omega, by omega, ?_⟩
  rw [e2]
  refine for_range (fun k σ H' => ∃ (as : List Addr) (u : Option V), Same H H' ∧ H' lt = some (.lst (as.map V.ref)) ∧ TiesAt H' n as (tieA n x y k) ∧ σ = [some (.ref p), some (.ref q), some (.int n), some (.ref lt), u, none, none, none, none, none, none]) ?_ ?_ ?_
  · exact ⟨[], _, S1, upd_same, TiesAt.nil _ _, rfl⟩
  · rintro k σ H3 hk ⟨as, u, S3, elt, hT, rfl⟩
    have e0 : (0 : Int) + (k : Int) = k := by omega
    rw [e0]
    have hal : as.length = 2 * k := by rw [hT.1, tieA_len]
    (repeat (first | refine ⟨_, rfl, ?_⟩ | refine ⟨_, _, rfl, rfl, ?_⟩ | refine ⟨rfl, ?_⟩ | refine ⟨_, _, rfl, .inl (by assumption), ?_⟩ | refine ⟨Or.inl ⟨by decide, by decide⟩, ?_⟩ | refine ⟨(by show (0 : Int) < _; decide), ?_⟩ | refine ⟨⟨by decide, by decide⟩, ?_⟩))
    refine ⟨.inl ⟨rfl, _, SqL.of elt⟩, ?_⟩
    (repeat (first | refine ⟨_, rfl, ?_⟩ | refine ⟨_, _, rfl, rfl, ?_⟩ | refine ⟨rfl, ?_⟩ | refine ⟨_, _, rfl, .inl (by assumption), ?_⟩ | refine ⟨Or.inl ⟨by decide, by decide⟩, ?_⟩ | refine ⟨(by show (0 : Int) < _; decide), ?_⟩ | refine ⟨⟨by decide, by decide⟩, ?_⟩))
    refine ⟨(by show 2 ≤ sizeLine; decide), fun t1 ht1 => ?_⟩
    have T1 := same_upd_new ht1 (.tup [.str "one", .int (k : Nat)])
    (repeat (first | refine ⟨_, rfl, ?_⟩ | refine ⟨_, _, rfl, rfl, ?_⟩ | refine ⟨rfl, ?_⟩ | refine ⟨_, _, rfl, .inl (by assumption), ?_⟩ | refine ⟨Or.inl ⟨by decide, by decide⟩, ?_⟩ | refine ⟨(by show (0 : Int) < _; decide), ?_⟩ | refine ⟨⟨by decide, by decide⟩, ?_⟩))
    refine ⟨p, _, _, _, rfl, rfl, T1.seq (S3.seq hP), la hk, ?_⟩
    (repeat (first | refine ⟨_, rfl, ?_⟩ | refine ⟨_, _, rfl, rfl, ?_⟩ | refine ⟨rfl, ?_⟩ | refine ⟨_, _, rfl, .inl (by assumption), ?_⟩ | refine ⟨Or.inl ⟨by decide, by decide⟩, ?_⟩ | refine ⟨(by show (0 : Int) < _; decide), ?_⟩ | refine ⟨⟨by decide, by decide⟩, ?_⟩))
    refine ⟨(by show 2 ≤ sizeLine; decide), fun t2 ht2 => ?_⟩
    have T2 := T1.trans (same_upd_new ht2 (.tup [.str "one", .int (x k : Nat)]))
    (repeat (first | refine ⟨_, rfl, ?_⟩ | refine ⟨_, _, rfl, rfl, ?_⟩ | refine ⟨rfl, ?_⟩ | refine ⟨_, _, rfl, .inl (by assumption), ?_⟩ | refine ⟨Or.inl ⟨by decide, by decide⟩, ?_⟩ | refine ⟨(by show (0 : Int) < _; decide), ?_⟩ | refine ⟨⟨by decide, by decide⟩, ?_⟩))
    refine ⟨(by show 2 ≤ sizeLine; decide), fun t3 ht3 => ?_⟩
    have T3 := T2.trans (same_upd_new ht3 (.tup [.ref t1, .ref t2]))
    (repeat (first | refine ⟨_, rfl, ?_⟩ | refine ⟨_, _, rfl, rfl, ?_⟩ | refine ⟨rfl, ?_⟩ | refine ⟨_, _, rfl, .inl (by assumption), ?_⟩ | refine ⟨Or.inl ⟨by decide, by decide⟩, ?_⟩ | refine ⟨(by show (0 : Int) < _; decide), ?_⟩ | refine ⟨⟨by decide, by decide⟩, ?_⟩))
    refine ⟨lt, _, _, rfl, rfl, T3 _ _ elt, by rw [List.length_map]; exact small1000 (by omega), ?_⟩
    have k1 := same_upd_new ht3 (.tup [.ref t1, .ref t2]) _ _ (same_upd_new ht2 (.tup [.str "one", .int (x k : Nat)]) _ _ (show upd H3 t1 (.tup [.str "one", .int (k : Nat)]) t1 = _ from upd_same))
    have k2 := same_upd_new ht3 (.tup [.ref t1, .ref t2]) _ _ (show upd (upd H3 t1 (.tup [.str "one", .int (k : Nat)])) t2 (.tup [.str "one", .int (x k : Nat)]) t2 = _ from upd_same)
    have tp := (hT.same T3).push (e := (k, x k)) upd_same (by rw [kp_one hk]; exact k1) (by rw [kp_one (X.lt k hk)]; exact k2)
    have S4 := (S3.trans T3).upd hlt (.lst (as.map V.ref ++ [.ref t3]))
    have tp4 := tp.upd (o := .lst (as.map V.ref ++ [.ref t3])) (T3 _ _ elt)
    have el4 : upd (upd (upd (upd H3 t1 (.tup [.str "one", .int (k : Nat)])) t2 (.tup [.str "one", .int (x k : Nat)])) t3 (.tup [.ref t1, .ref t2])) lt (.lst (as.map V.ref ++ [.ref t3])) lt = some (.lst ((as ++ [t3]).map V.ref)) := by rw [upd_same, List.map_append]; rfl
    generalize upd (upd (upd (upd H3 t1 (.tup [.str "one", .int (k : Nat)])) t2 (.tup [.str "one", .int (x k : Nat)])) t3 (.tup [.ref t1, .ref t2])) lt (.lst (as.map V.ref ++ [.ref t3])) = H4 at S4 tp4 el4 ⊢
    have hal4 : (as ++ [t3]).length = 2 * k + 1 := by simp [hal]
    generalize as ++ [t3] = as4 at tp4 el4 hal4
    (repeat (first | refine ⟨_, rfl, ?_⟩ | refine ⟨_, _, rfl, rfl, ?_⟩ | refine ⟨rfl, ?_⟩ | refine ⟨_, _, rfl, .inl (by assumption), ?_⟩ | refine ⟨Or.inl ⟨by decide, by decide⟩, ?_⟩ | refine ⟨(by show (0 : Int) < _; decide), ?_⟩ | refine ⟨⟨by decide, by decide⟩, ?_⟩))
    refine ⟨.inl ⟨rfl, _, SqL.of el4⟩, ?_⟩
    (repeat (first | refine ⟨_, rfl, ?_⟩ | refine ⟨_, _, rfl, rfl, ?_⟩ | refine ⟨rfl, ?_⟩ | refine ⟨_, _, rfl, .inl (by assumption), ?_⟩ | refine ⟨Or.inl ⟨by decide, by decide⟩, ?_⟩ | refine ⟨(by show (0 : Int) < _; decide), ?_⟩ | refine ⟨⟨by decide, by decide⟩, ?_⟩))
    refine ⟨(by show 2 ≤ sizeLine; decide), fun r1 hr1 => ?_⟩
    have R1 := same_upd_new hr1 (.tup [.str "other", .int (k : Nat)])
    (repeat (first | refine ⟨_, rfl, ?_⟩ | refine ⟨_, _, rfl, rfl, ?_⟩ | refine ⟨rfl, ?_⟩ | refine ⟨_, _, rfl, .inl (by assumption), ?_⟩ | refine ⟨Or.inl ⟨by decide, by decide⟩, ?_⟩ | refine ⟨(by show (0 : Int) < _; decide), ?_⟩ | refine ⟨⟨by decide, by decide⟩, ?_⟩))
    refine ⟨q, _, _, _, rfl, rfl, R1.seq (S4.seq hQ), lb hk, ?_⟩
    (repeat (first | refine ⟨_, rfl, ?_⟩ | refine ⟨_, _, rfl, rfl, ?_⟩ | refine ⟨rfl, ?_⟩ | refine ⟨_, _, rfl, .inl (by assumption), ?_⟩ | refine ⟨Or.inl ⟨by decide, by decide⟩, ?_⟩ | refine ⟨(by show (0 : Int) < _; decide), ?_⟩ | refine ⟨⟨by decide, by decide⟩, ?_⟩))
    refine ⟨(by show 2 ≤ sizeLine; decide), fun r2 hr2 => ?_⟩
    have R2 := R1.trans (same_upd_new hr2 (.tup [.str "other", .int (y k : Nat)]))
    (repeat (first | refine ⟨_, rfl, ?_⟩ | refine ⟨_, _, rfl, rfl, ?_⟩ | refine ⟨rfl, ?_⟩ | refine ⟨_, _, rfl, .inl (by assumption), ?_⟩ | refine ⟨Or.inl ⟨by decide, by decide⟩, ?_⟩ | refine ⟨(by show (0 : Int) < _; decide), ?_⟩ | refine ⟨⟨by decide, by decide⟩, ?_⟩))
    refine ⟨(by show 2 ≤ sizeLine; decide), fun r3 hr3 => ?_⟩
    have R3 := R2.trans (same_upd_new hr3 (.tup [.ref r1, .ref r2]))
    (repeat (first | refine ⟨_, rfl, ?_⟩ | refine ⟨_, _, rfl, rfl, ?_⟩ | refine ⟨rfl, ?_⟩ | refine ⟨_, _, rfl, .inl (by assumption), ?_⟩ | refine ⟨Or.inl ⟨by decide, by decide⟩, ?_⟩ | refine ⟨(by show (0 : Int) < _; decide), ?_⟩ | refine ⟨⟨by decide, by decide⟩, ?_⟩))
    refine ⟨lt, _, _, rfl, rfl, R3 _ _ el4, by rw [List.length_map]; exact small1000 (by omega), ?_⟩
    have j1 := same_upd_new hr3 (.tup [.ref r1, .ref r2]) _ _ (same_upd_new hr2 (.tup [.str "other", .int (y k : Nat)]) _ _ (show upd H4 r1 (.tup [.str "other", .int (k : Nat)]) r1 = _ from upd_same))
    have j2 := same_upd_new hr3 (.tup [.ref r1, .ref r2]) _ _ (show upd (upd H4 r1 (.tup [.str "other", .int (k : Nat)])) r2 (.tup [.str "other", .int (y k : Nat)]) r2 = _ from upd_same)
    have tq := (tp4.same R3).push (e := (2 * n + k, 2 * n + y k)) upd_same (by rw [kp_other]; exact j1) (by rw [kp_other]; exact j2)
    refine ⟨as4 ++ [r3], _, (S4.trans R3).upd hlt _, by rw [upd_same, List.map_append]; rfl, ?_, rfl⟩
    have tq5 := tq.upd (o := .lst (as4.map V.ref ++ [.ref r3])) (R3 _ _ el4)
    rw [show tieA n x y (k + 1) = tieA n x y k ++ [(k, x k)] ++ [(2 * n + k, 2 * n + y k)] by simp [tieA]]
    exact tq5
  · rintro σ H3 ⟨as, u, S3, elt, hT, rfl⟩
    (repeat (first | refine ⟨_, rfl, ?_⟩ | refine ⟨_, _, rfl, rfl, ?_⟩ | refine ⟨rfl, ?_⟩ | refine ⟨_, _, rfl, .inl (by assumption), ?_⟩ | refine ⟨Or.inl ⟨by decide, by decide⟩, ?_⟩ | refine ⟨(by show (0 : Int) < _; decide), ?_⟩ | refine ⟨⟨by decide, by decide⟩, ?_⟩))
    refine ⟨by omega, by omega, ?_⟩
    rw [Int.toNat_natCast]
    refine for_range (fun k σ H' => ∃ (as : List Addr) (v : Option V), Same H H' ∧ H' lt = some (.lst (as.map V.ref)) ∧ TiesAt H' n as (tieA n x y (2 * n) ++ tieB n k) ∧ σ = [some (.ref p), some (.ref q), some (.int n), some (.ref lt), u, v, none, none, none, none, none]) ?_ ?_ ?_
    · exact ⟨as, _, S3, elt, by rw [show tieB n 0 = [] from rfl, List.append_nil]; exact hT, rfl⟩
    · rintro k σ H4 hk ⟨as, v, S4, elt, hT, rfl⟩
      have e0 : (0 : Int) + (k : Int) = k := by omega
      rw [e0]
      have hal : as.length = 4 * n + k := by rw [hT.1, List.length_append, tieA_len, tieB_len]; omega
      (repeat (first | refine ⟨_, rfl, ?_⟩ | refine ⟨_, _, rfl, rfl, ?_⟩ | refine ⟨rfl, ?_⟩ | refine ⟨_, _, rfl, .inl (by assumption), ?_⟩ | refine ⟨Or.inl ⟨by decide, by decide⟩, ?_⟩ | refine ⟨(by show (0 : Int) < _; decide), ?_⟩ | refine ⟨⟨by decide, by decide⟩, ?_⟩))
      refine ⟨.inl ⟨rfl, _, SqL.of elt⟩, ?_⟩
      (repeat (first | refine ⟨_, rfl, ?_⟩ | refine ⟨_, _, rfl, rfl, ?_⟩ | refine ⟨rfl, ?_⟩ | refine ⟨_, _, rfl, .inl (by assumption), ?_⟩ | refine ⟨Or.inl ⟨by decide, by decide⟩, ?_⟩ | refine ⟨(by show (0 : Int) < _; decide), ?_⟩ | refine ⟨⟨by decide, by decide⟩, ?_⟩))
      refine ⟨(by show 2 ≤ sizeLine; decide), fun t1 ht1 => ?_⟩
      have ei : (2 : Int) * (n : Int) - 1 - (k : Int) = ((2 * n - 1 - k : Nat) : Int) := by omega
      dsimp only at ht1 ⊢
      rw [ei]
      have T1 := same_upd_new ht1 (.tup [.str "one", .int ((2 * n - 1 - k : Nat) : Int)])
      (repeat (first | refine ⟨_, rfl, ?_⟩ | refine ⟨_, _, rfl, rfl, ?_⟩ | refine ⟨rfl, ?_⟩ | refine ⟨_, _, rfl, .inl (by assumption), ?_⟩ | refine ⟨Or.inl ⟨by decide, by decide⟩, ?_⟩ | refine ⟨(by show (0 : Int) < _; decide), ?_⟩ | refine ⟨⟨by decide, by decide⟩, ?_⟩))
      refine ⟨(by show 2 ≤ sizeLine; decide), fun t2 ht2 => ?_⟩
      have T2 := T1.trans (same_upd_new ht2 (.tup [.str "other", .int (k : Nat)]))
      (repeat (first | refine ⟨_, rfl, ?_⟩ | refine ⟨_, _, rfl, rfl, ?_⟩ | refine ⟨rfl, ?_⟩ | refine ⟨_, _, rfl, .inl (by assumption), ?_⟩ | refine ⟨Or.inl ⟨by decide, by decide⟩, ?_⟩ | refine ⟨(by show (0 : Int) < _; decide), ?_⟩ | refine ⟨⟨by decide, by decide⟩, ?_⟩))
      refine ⟨(by show 2 ≤ sizeLine; decide), fun t3 ht3 => ?_⟩
      have T3 := T2.trans (same_upd_new ht3 (.tup [.ref t1, .ref t2]))
      (repeat (first | refine ⟨_, rfl, ?_⟩ | refine ⟨_, _, rfl, rfl, ?_⟩ | refine ⟨rfl, ?_⟩ | refine ⟨_, _, rfl, .inl (by assumption), ?_⟩ | refine ⟨Or.inl ⟨by decide, by decide⟩, ?_⟩ | refine ⟨(by show (0 : Int) < _; decide), ?_⟩ | refine ⟨⟨by decide, by decide⟩, ?_⟩))
      refine ⟨lt, _, _, rfl, rfl, T3 _ _ elt, by rw [List.length_map]; exact small1000 (by omega), ?_⟩
      have k1 := same_upd_new ht3 (.tup [.ref t1, .ref t2]) _ _ (same_upd_new ht2 (.tup [.str "other", .int (k : Nat)]) _ _ (show upd H4 t1 (.tup [.str "one", .int ((2 * n - 1 - k : Nat) : Int)]) t1 = _ from upd_same))
      have k2 := same_upd_new ht3 (.tup [.ref t1, .ref t2]) _ _ (show upd (upd H4 t1 (.tup [.str "one", .int ((2 * n - 1 - k : Nat) : Int)])) t2 (.tup [.str "other", .int (k : Nat)]) t2 = _ from upd_same)
      have tp := (hT.same T3).push (e := (2 * n - 1 - k, 2 * n + k)) upd_same (by rw [kp_one (by omega)]; exact k1) (by rw [kp_other]; exact k2)
      refine ⟨as ++ [t3], _, (S4.trans T3).upd hlt _, by rw [upd_same, List.map_append]; rfl, ?_, rfl⟩
      have tp4 := tp.upd (o := .lst (as.map V.ref ++ [.ref t3])) (T3 _ _ elt)
      rw [show tieB n (k + 1) = tieB n k ++ [(2 * n - 1 - k, 2 * n + k)] from rfl, ← List.append_assoc]
      exact tp4
    · rintro σ H4 ⟨as, v, S4, elt, hT, rfl⟩
      exact q1 H H4 p q lt n x y as _ _ n1 n2 X Y S4 elt hT qq

-- CUT 8
def sp_law (K : PySem.W.Frag) : Sp := fun vs H Q _ => ∃ (a : Addr) (ns : List Int), vs = [.ref a] ∧ SqL K H a (ns.map V.int) ∧ ns.length ≤ 63 ∧ ∀ H', Q (.bl true) H'
theorem NamesAt.same {H H' : Hp} {d : Addr} {n : Nat} {lab : Nat → Nat} (h : NamesAt H d n lab) (S : Same H H') : NamesAt H' d n lab := by
  obtain ⟨kvs, e, a, b⟩ := h
  exact ⟨kvs, S _ _ e, a, b⟩
section
variable {cdv : Value} {A : Around} {outer : List Env} {s : Shared} {H0 : Hp} {Q : VK} {E : XK}
theorem law_rest (hr : Room 7 (A.deeper (PyProof.Rows.envOfC "law" (defScope s_law) s.heap.objs.size f cdv)))
    (c_laid : Fn P w K mg base CX0 "laid" ["one", "other"] [] 7 (sp_laid K)) (c_law_numbers : Fn P w K mg base CX0 "_law_numbers" ["found", "due"] [] 2 (sp_law_numbers K)) (c_law_good : Fn P w K mg base CX0 "_law_good" ["some"] [] 1 (sp_law_good K)) (c_law_whole : Fn P w K mg base CX0 "_law_whole" ["found"] [] 1 sp_law_whole) (mlen : mg "len" = none) (mrange : mg "range" = none) (mlist : mg "list" = none) (misinstance : mg "isinstance" = none) (mtuple : mg "tuple" = none) (q : ∀ H', Q (.bl true) H') :
    ∃ t : TS, PSs (cxOf CX0 P w K mg base ["script", "size", "one", "other", "names", "outer", "due", "k", "rings", "handed", "turn", "found"] "law" (defScope s_law) f cdv A outer s H0 E).nox ((defBody s_law).drop 8) t ∧
      ∀ (H : Hp) (a r1 r2 ld : Addr) (m : Nat) (x y : Nat → Nat) (u v w' : Option V), 1 ≤ m → m ≤ 20 → IsArcs (2 * m) x → IsArcs (2 * m) y → H r1 = some (.lst ((tab (2 * m) x).map V.int)) → H r2 = some (.lst ((tab (2 * m) y).map V.int)) → H ld = some (.lst ((tab (2 * m) (laidF m x y)).map V.int)) →
        t { nx := fun _ H' => Q .non H', rt := Q } [some (.ref a), some (.int m), some (.ref r1), some (.ref r2), u, v, some (.ref ld), w', some (.int (rgs m x y : Nat)), none, none, none] H := by
  have nd := sc_law.nd
  refine ⟨_, (pss_cons (ps_set (i := 9) nd rfl (Or.inl rfl) (pe_lst (pa_cons (pe_callTy call_list_of rfl mlist PyProof.Rows.boot_list (pa_cons (pv 2) pa_nil)) (pa_cons (pe_callTy call_list_of rfl mlist PyProof.Rows.boot_list (pa_cons (pv 3) pa_nil)) pa_nil))))
  (pss_cons (ps_for PassesOwn.never rfl (pi_range1 rfl mrange (pa_cons pe_int pa_nil)) (pg_name (i := 10) nd rfl (Or.inl rfl)) (pss_cons (ps_set (i := 11) nd rfl (Or.inl rfl) (pe_fn c_laid hr (by decide) rfl (pa_cons (pe_ix ix_list (pv 9) pe_int (fun _ _ => rfl)) (pa_cons (pe_ix ix_list (pv 9) pe_int (fun _ _ => rfl)) pa_nil))))
  (pss_cons (ps_if (PW.pt (pw_or (pt_not (pt_val (pe_callB call_inst rfl misinstance PyProof.Rows.boot_isinstance (pa_cons (pv 11) (pa_cons (pe_bltn (v := .ty "tuple") rfl mtuple PyProof.Rows.boot_tuple rfl) pa_nil))))) (pw_or (pt_cmpR op_ne (pe_callB call_len_seq rfl mlen PySem.boot_len (pa_cons (pv 11) pa_nil)) pe_int (nomark _)) (pw_or1 (pt_cmpR (op_neT hr.units) (pv 9) (pe_lst (pa_cons (pv 2) (pa_cons (pv 3) pa_nil))) (nomark _)))))) (pss_one (ps_ret pe_bl)) pss_nil)
  (pss_cons (ps_if (PW.pt (pw_or (pt_not (pt_val (pe_fn c_law_numbers hr (by decide) rfl (pa_cons (pe_ix ix_tup (pv 11) pe_int (fun _ _ => rfl)) (pa_cons (pv 6) pa_nil))))) (pw_or1 (pt_not (pt_val (pe_fn c_law_good hr (by decide) rfl (pa_cons (pe_ix ix_tup (pv 11) pe_int (fun _ _ => rfl)) pa_nil))))))) (pss_one (ps_ret pe_bl)) pss_nil)
  (pss_cons (ps_if (PW.pt (pw_or (pt_not (pt_val (pe_fn c_law_whole hr (by decide) rfl (pa_cons (pe_ix ix_tup (pv 11) pe_int (fun _ _ => rfl)) pa_nil)))) (pw_or1 (pt_cmpR op_ne (pe_ix ix_tup (pv 11) pe_int (fun _ _ => rfl)) (pv 8) (nomark _))))) (pss_one (ps_ret pe_bl)) pss_nil)
  (pss_one (ps_expr (pe_bm PySem.F.plainAttrs_list PySem.F.slot_list_append PySem.F.type_list_append mt_append (pe_ix ix_tup (pv 11) pe_int (fun _ _ => rfl)) (pa_cons pe_int pa_nil)))))))))
  (pss_one (ps_ret pe_bl)))), ?_⟩
  intro H a r1 r2 ld m x y u v w' m1 m2 X Y e1 e2 ed
  (repeat (first | refine ⟨_, rfl, ?_⟩ | refine ⟨_, _, rfl, rfl, ?_⟩ | refine ⟨rfl, ?_⟩ | refine ⟨_, _, rfl, .inl (by assumption), ?_⟩ | refine ⟨Or.inl ⟨by decide, by decide⟩, ?_⟩ | refine ⟨(by show (0 : Int) < _; decide), ?_⟩ | refine ⟨⟨by decide, by decide⟩, ?_⟩))
  refine ⟨r1, _, rfl, .inl (SqL.of e1), fun h0 hh0 => ?_⟩
  have S4 := same_upd_new hh0 (.lst ((tab (2 * m) x).map V.int))
  (repeat (first | refine ⟨_, rfl, ?_⟩ | refine ⟨_, _, rfl, rfl, ?_⟩ | refine ⟨rfl, ?_⟩ | refine ⟨_, _, rfl, .inl (by assumption), ?_⟩ | refine ⟨Or.inl ⟨by decide, by decide⟩, ?_⟩ | refine ⟨(by show (0 : Int) < _; decide), ?_⟩ | refine ⟨⟨by decide, by decide⟩, ?_⟩))
  refine ⟨r2, _, rfl, .inl (SqL.of (S4 _ _ e2)), fun h1 hh1 => ?_⟩
  have S5 := same_upd_new hh1 (.lst ((tab (2 * m) y).map V.int))
  (repeat (first | refine ⟨_, rfl, ?_⟩ | refine ⟨_, _, rfl, rfl, ?_⟩ | refine ⟨rfl, ?_⟩ | refine ⟨_, _, rfl, .inl (by assumption), ?_⟩ | refine ⟨Or.inl ⟨by decide, by decide⟩, ?_⟩ | refine ⟨(by show (0 : Int) < _; decide), ?_⟩ | refine ⟨⟨by decide, by decide⟩, ?_⟩))
  refine ⟨(by show 2 ≤ sizeLine; decide), fun lh hlh => ?_⟩
  have S6 := same_upd_new hlh (.lst [.ref h0, .ref h1])
  have S456 := S4.trans (S5.trans S6)
  have u1 := S456 _ _ e1
  have u2 := S456 _ _ e2
  have ud := S456 _ _ ed
  have v0 := S6 _ _ (S5 _ _ (show upd H h0 _ h0 = _ from upd_same))
  have v1 := S6 _ _ (show upd (upd H h0 _) h1 (.lst ((tab (2 * m) y).map V.int)) h1 = _ from upd_same)
  have vh : upd (upd (upd H h0 (.lst ((tab (2 * m) x).map V.int))) h1 (.lst ((tab (2 * m) y).map V.int))) lh (.lst [.ref h0, .ref h1]) lh = some (.lst [.ref h0, .ref h1]) := upd_same
  have ne0 : h0 ≠ r1 := (ne_of_none e1 hh0).symm
  have ne1 : h1 ≠ r2 := (ne_of_none (S4 _ _ e2) hh1).symm
  generalize upd (upd (upd H h0 (.lst ((tab (2 * m) x).map V.int))) h1 (.lst ((tab (2 * m) y).map V.int))) lh (.lst [.ref h0, .ref h1]) = HB at u1 u2 ud v0 v1 vh ⊢
  have C := (laid_comp X Y).arcs X Y
  (repeat (first | refine ⟨_, rfl, ?_⟩ | refine ⟨_, _, rfl, rfl, ?_⟩ | refine ⟨rfl, ?_⟩ | refine ⟨_, _, rfl, .inl (by assumption), ?_⟩ | refine ⟨Or.inl ⟨by decide, by decide⟩, ?_⟩ | refine ⟨(by show (0 : Int) < _; decide), ?_⟩ | refine ⟨⟨by decide, by decide⟩, ?_⟩))
  refine ⟨by decide, by decide, ?_⟩
  refine for_range (fun i σ H' => Same HB H' ∧ ∃ y1 y2, σ = [some (.ref a), some (.int m), some (.ref r1), some (.ref r2), u, v, some (.ref ld), w', some (.int (rgs m x y : Nat)), some (.ref lh), y1, y2]) ⟨Same.refl _, _, _, rfl⟩ ?_ ?_
  · rintro i σ H' hi ⟨S7, y1, y2, rfl⟩
    (repeat (first | refine ⟨_, rfl, ?_⟩ | refine ⟨_, _, rfl, rfl, ?_⟩ | refine ⟨rfl, ?_⟩ | refine ⟨_, _, rfl, .inl (by assumption), ?_⟩ | refine ⟨Or.inl ⟨by decide, by decide⟩, ?_⟩ | refine ⟨(by show (0 : Int) < _; decide), ?_⟩ | refine ⟨⟨by decide, by decide⟩, ?_⟩))
    refine ⟨lh, _, _, .ref h0, rfl, rfl, SqL.of (S7 _ _ vh), rfl, ?_⟩
    (repeat (first | refine ⟨_, rfl, ?_⟩ | refine ⟨_, _, rfl, rfl, ?_⟩ | refine ⟨rfl, ?_⟩ | refine ⟨_, _, rfl, .inl (by assumption), ?_⟩ | refine ⟨Or.inl ⟨by decide, by decide⟩, ?_⟩ | refine ⟨(by show (0 : Int) < _; decide), ?_⟩ | refine ⟨⟨by decide, by decide⟩, ?_⟩))
    refine ⟨lh, _, _, .ref h1, rfl, rfl, SqL.of (S7 _ _ vh), rfl, ?_⟩
    (repeat (first | refine ⟨_, rfl, ?_⟩ | refine ⟨_, _, rfl, rfl, ?_⟩ | refine ⟨rfl, ?_⟩ | refine ⟨_, _, rfl, .inl (by assumption), ?_⟩ | refine ⟨Or.inl ⟨by decide, by decide⟩, ?_⟩ | refine ⟨(by show (0 : Int) < _; decide), ?_⟩ | refine ⟨⟨by decide, by decide⟩, ?_⟩))
    refine ⟨h0, h1, m, x, y, rfl, S7 _ _ v0, SqL.of (S7 _ _ v1), X, Y, m1, m2, fun t8 l8 H8 S8 ht8 hl8 n8 q8 p8 => ?_⟩
    have S78 := S7.trans S8
    (repeat (first | refine ⟨_, rfl, ?_⟩ | refine ⟨_, _, rfl, rfl, ?_⟩ | refine ⟨rfl, ?_⟩ | refine ⟨_, _, rfl, .inl (by assumption), ?_⟩ | refine ⟨Or.inl ⟨by decide, by decide⟩, ?_⟩ | refine ⟨(by show (0 : Int) < _; decide), ?_⟩ | refine ⟨⟨by decide, by decide⟩, ?_⟩))
    refine ⟨_, _, _, true, rfl, TyOf.tup q8, rfl, ?_⟩
    (repeat (first | refine ⟨_, rfl, ?_⟩ | refine ⟨_, _, rfl, rfl, ?_⟩ | refine ⟨rfl, ?_⟩ | refine ⟨_, _, rfl, .inl (by assumption), ?_⟩ | refine ⟨Or.inl ⟨by decide, by decide⟩, ?_⟩ | refine ⟨(by show (0 : Int) < _; decide), ?_⟩ | refine ⟨⟨by decide, by decide⟩, ?_⟩))
    (try refine iteF ?_)
    (repeat (first | refine ⟨_, rfl, ?_⟩ | refine ⟨_, _, rfl, rfl, ?_⟩ | refine ⟨rfl, ?_⟩ | refine ⟨_, _, rfl, .inl (by assumption), ?_⟩ | refine ⟨Or.inl ⟨by decide, by decide⟩, ?_⟩ | refine ⟨(by show (0 : Int) < _; decide), ?_⟩ | refine ⟨⟨by decide, by decide⟩, ?_⟩))
    refine ⟨t8, _, rfl, .inr (SqT.of q8), ?_⟩
    (repeat (first | refine ⟨_, rfl, ?_⟩ | refine ⟨_, _, rfl, rfl, ?_⟩ | refine ⟨rfl, ?_⟩ | refine ⟨_, _, rfl, .inl (by assumption), ?_⟩ | refine ⟨Or.inl ⟨by decide, by decide⟩, ?_⟩ | refine ⟨(by show (0 : Int) < _; decide), ?_⟩ | refine ⟨⟨by decide, by decide⟩, ?_⟩))
    (try refine ite2 (fun c => absurd rfl (ne_yes c)) (fun _ => ?_))
    (repeat (first | refine ⟨_, rfl, ?_⟩ | refine ⟨_, _, rfl, rfl, ?_⟩ | refine ⟨rfl, ?_⟩ | refine ⟨_, _, rfl, .inl (by assumption), ?_⟩ | refine ⟨Or.inl ⟨by decide, by decide⟩, ?_⟩ | refine ⟨(by show (0 : Int) < _; decide), ?_⟩ | refine ⟨⟨by decide, by decide⟩, ?_⟩))
    refine ⟨(by show 2 ≤ sizeLine; decide), fun l9 hl9 => ?_⟩
    have S9 := same_upd_new hl9 (.lst [.ref r1, .ref r2])
    have S79 := S78.trans S9
    (repeat (first | refine ⟨_, rfl, ?_⟩ | refine ⟨_, _, rfl, rfl, ?_⟩ | refine ⟨rfl, ?_⟩ | refine ⟨_, _, rfl, .inl (by assumption), ?_⟩ | refine ⟨Or.inl ⟨by decide, by decide⟩, ?_⟩ | refine ⟨(by show (0 : Int) < _; decide), ?_⟩ | refine ⟨⟨by decide, by decide⟩, ?_⟩))
    refine ⟨true, eqT_rows (as := [h0, h1]) (ds := [r1, r2]) (SqL.of (S79 _ _ vh)) (SqL.of upd_same) rfl ?_, ?_⟩
    · intro j x y hx hy
      match j, hx, hy with
      | 0, hx, hy => cases hx; cases hy; exact ⟨ne0, _, SqL.of (S79 _ _ v0), SqL.of (S79 _ _ u1)⟩
      | 1, hx, hy => cases hx; cases hy; exact ⟨ne1, _, SqL.of (S79 _ _ v1), SqL.of (S79 _ _ u2)⟩
      | j + 2, hx, _ => simp at hx
    (repeat (first | refine ⟨_, rfl, ?_⟩ | refine ⟨_, _, rfl, rfl, ?_⟩ | refine ⟨rfl, ?_⟩ | refine ⟨_, _, rfl, .inl (by assumption), ?_⟩ | refine ⟨Or.inl ⟨by decide, by decide⟩, ?_⟩ | refine ⟨(by show (0 : Int) < _; decide), ?_⟩ | refine ⟨⟨by decide, by decide⟩, ?_⟩))
    (try refine iteF ?_)
    have q9 := S9 _ _ q8
    have p9 := S9 _ _ p8
    have S89 := S8.trans S9
    generalize upd H8 l9 (.lst [.ref r1, .ref r2]) = H9 at S79 S89 q9 p9 ⊢
    (repeat (first | refine ⟨_, rfl, ?_⟩ | refine ⟨_, _, rfl, rfl, ?_⟩ | refine ⟨rfl, ?_⟩ | refine ⟨_, _, rfl, .inl (by assumption), ?_⟩ | refine ⟨Or.inl ⟨by decide, by decide⟩, ?_⟩ | refine ⟨(by show (0 : Int) < _; decide), ?_⟩ | refine ⟨⟨by decide, by decide⟩, ?_⟩))
    refine ⟨t8, _, _, _, rfl, rfl, SqT.of q9, rfl, ?_⟩
    (repeat (first | refine ⟨_, rfl, ?_⟩ | refine ⟨_, _, rfl, rfl, ?_⟩ | refine ⟨rfl, ?_⟩ | refine ⟨_, _, rfl, .inl (by assumption), ?_⟩ | refine ⟨Or.inl ⟨by decide, by decide⟩, ?_⟩ | refine ⟨(by show (0 : Int) < _; decide), ?_⟩ | refine ⟨⟨by decide, by decide⟩, ?_⟩))
    refine ⟨l8, ld, _, _, rfl, p9, SqL.of (S79 _ _ ud), ?_⟩
    rw [decide_eq_true rfl]
    (repeat (first | refine ⟨_, rfl, ?_⟩ | refine ⟨_, _, rfl, rfl, ?_⟩ | refine ⟨rfl, ?_⟩ | refine ⟨_, _, rfl, .inl (by assumption), ?_⟩ | refine ⟨Or.inl ⟨by decide, by decide⟩, ?_⟩ | refine ⟨(by show (0 : Int) < _; decide), ?_⟩ | refine ⟨⟨by decide, by decide⟩, ?_⟩))
    (try refine iteF ?_)
    (repeat (first | refine ⟨_, rfl, ?_⟩ | refine ⟨_, _, rfl, rfl, ?_⟩ | refine ⟨rfl, ?_⟩ | refine ⟨_, _, rfl, .inl (by assumption), ?_⟩ | refine ⟨Or.inl ⟨by decide, by decide⟩, ?_⟩ | refine ⟨(by show (0 : Int) < _; decide), ?_⟩ | refine ⟨⟨by decide, by decide⟩, ?_⟩))
    refine ⟨t8, _, _, _, rfl, rfl, SqT.of q9, rfl, ?_⟩
    (repeat (first | refine ⟨_, rfl, ?_⟩ | refine ⟨_, _, rfl, rfl, ?_⟩ | refine ⟨rfl, ?_⟩ | refine ⟨_, _, rfl, .inl (by assumption), ?_⟩ | refine ⟨Or.inl ⟨by decide, by decide⟩, ?_⟩ | refine ⟨(by show (0 : Int) < _; decide), ?_⟩ | refine ⟨⟨by decide, by decide⟩, ?_⟩))
    refine ⟨l8, _, rfl, SqL.of p9, by rw [tab_length]; omega, ?_⟩
    rw [isArcs_tab C (by omega) (by omega) (by omega)]
    (repeat (first | refine ⟨_, rfl, ?_⟩ | refine ⟨_, _, rfl, rfl, ?_⟩ | refine ⟨rfl, ?_⟩ | refine ⟨_, _, rfl, .inl (by assumption), ?_⟩ | refine ⟨Or.inl ⟨by decide, by decide⟩, ?_⟩ | refine ⟨(by show (0 : Int) < _; decide), ?_⟩ | refine ⟨⟨by decide, by decide⟩, ?_⟩))
    (try refine iteF ?_)
    (repeat (first | refine ⟨_, rfl, ?_⟩ | refine ⟨_, _, rfl, rfl, ?_⟩ | refine ⟨rfl, ?_⟩ | refine ⟨_, _, rfl, .inl (by assumption), ?_⟩ | refine ⟨Or.inl ⟨by decide, by decide⟩, ?_⟩ | refine ⟨(by show (0 : Int) < _; decide), ?_⟩ | refine ⟨⟨by decide, by decide⟩, ?_⟩))
    refine ⟨t8, _, _, _, rfl, rfl, SqT.of q9, rfl, ?_⟩
    (repeat (first | refine ⟨_, rfl, ?_⟩ | refine ⟨_, _, rfl, rfl, ?_⟩ | refine ⟨rfl, ?_⟩ | refine ⟨_, _, rfl, .inl (by assumption), ?_⟩ | refine ⟨Or.inl ⟨by decide, by decide⟩, ?_⟩ | refine ⟨(by show (0 : Int) < _; decide), ?_⟩ | refine ⟨⟨by decide, by decide⟩, ?_⟩))
    (try refine iteF ?_)
    (repeat (first | refine ⟨_, rfl, ?_⟩ | refine ⟨_, _, rfl, rfl, ?_⟩ | refine ⟨rfl, ?_⟩ | refine ⟨_, _, rfl, .inl (by assumption), ?_⟩ | refine ⟨Or.inl ⟨by decide, by decide⟩, ?_⟩ | refine ⟨(by show (0 : Int) < _; decide), ?_⟩ | refine ⟨⟨by decide, by decide⟩, ?_⟩))
    refine ⟨t8, _, _, _, rfl, rfl, SqT.of q9, rfl, ?_⟩
    (repeat (first | refine ⟨_, rfl, ?_⟩ | refine ⟨_, _, rfl, rfl, ?_⟩ | refine ⟨rfl, ?_⟩ | refine ⟨_, _, rfl, .inl (by assumption), ?_⟩ | refine ⟨Or.inl ⟨by decide, by decide⟩, ?_⟩ | refine ⟨(by show (0 : Int) < _; decide), ?_⟩ | refine ⟨⟨by decide, by decide⟩, ?_⟩))
    refine ite2 (fun c => absurd rfl (ne_yes c)) (fun _ => ?_)
    (repeat (first | refine ⟨_, rfl, ?_⟩ | refine ⟨_, _, rfl, rfl, ?_⟩ | refine ⟨rfl, ?_⟩ | refine ⟨_, _, rfl, .inl (by assumption), ?_⟩ | refine ⟨Or.inl ⟨by decide, by decide⟩, ?_⟩ | refine ⟨(by show (0 : Int) < _; decide), ?_⟩ | refine ⟨⟨by decide, by decide⟩, ?_⟩))
    refine ⟨t8, _, _, _, rfl, rfl, SqT.of q9, rfl, ?_⟩
    (repeat (first | refine ⟨_, rfl, ?_⟩ | refine ⟨_, _, rfl, rfl, ?_⟩ | refine ⟨rfl, ?_⟩ | refine ⟨_, _, rfl, .inl (by assumption), ?_⟩ | refine ⟨Or.inl ⟨by decide, by decide⟩, ?_⟩ | refine ⟨(by show (0 : Int) < _; decide), ?_⟩ | refine ⟨⟨by decide, by decide⟩, ?_⟩))
    refine ⟨.inl ⟨rfl, _, SqL.of p9⟩, ?_⟩
    (repeat (first | refine ⟨_, rfl, ?_⟩ | refine ⟨_, _, rfl, rfl, ?_⟩ | refine ⟨rfl, ?_⟩ | refine ⟨_, _, rfl, .inl (by assumption), ?_⟩ | refine ⟨Or.inl ⟨by decide, by decide⟩, ?_⟩ | refine ⟨(by show (0 : Int) < _; decide), ?_⟩ | refine ⟨⟨by decide, by decide⟩, ?_⟩))
    refine ⟨l8, _, _, rfl, rfl, p9, by rw [List.length_map, tab_length]; exact small1000 (by omega), ?_⟩
    exact ⟨S7.trans (S89.upd hl8 _), _, _, rfl⟩
  · rintro σ H' ⟨S7, y1, y2, rfl⟩
    (repeat (first | refine ⟨_, rfl, ?_⟩ | refine ⟨_, _, rfl, rfl, ?_⟩ | refine ⟨rfl, ?_⟩ | refine ⟨_, _, rfl, .inl (by assumption), ?_⟩ | refine ⟨Or.inl ⟨by decide, by decide⟩, ?_⟩ | refine ⟨(by show (0 : Int) < _; decide), ?_⟩ | refine ⟨⟨by decide, by decide⟩, ?_⟩))
    exact q H'
end
theorem ok_law (F : FunD K "law" "law" s_law dV f fd) (c_law_cell_at : Fn P w K mg base CX0 "_law_cell_at" ["script", "k"] [] 1 (sp_law_cell_at K)) (c_law_arcs : Fn P w K mg base CX0 "_law_arcs" ["script", "at", "size"] [] 2 (sp_law_arcs K)) (c_law_names : Fn P w K mg base CX0 "_law_names" ["one", "other"] [] 1 (sp_law_names K))
    (c_laid : Fn P w K mg base CX0 "laid" ["one", "other"] [] 7 (sp_laid K)) (c_law_numbers : Fn P w K mg base CX0 "_law_numbers" ["found", "due"] [] 2 (sp_law_numbers K)) (c_law_good : Fn P w K mg base CX0 "_law_good" ["some"] [] 1 (sp_law_good K)) (c_law_whole : Fn P w K mg base CX0 "_law_whole" ["found"] [] 1 sp_law_whole)
    (mlen : mg "len" = none) (mrange : mg "range" = none) (mlist : mg "list" = none) (misinstance : mg "isinstance" = none) (mtuple : mg "tuple" = none) (mset : mg "set" = none) : FnOk P w K mg base CX0 8 f fd ["script"] (sp_law K) := by
  refine F.ok (k := 7) sc_law (fun vs H Q E h => ?_) (fun cdv A outer s H vs Q E hr h => ?_)
  · obtain ⟨_, _, rfl, _⟩ := h; rfl
  obtain ⟨a, ns, rfl, hS, hz, q⟩ := h
  have nd := sc_law.nd
  have hu := hu_of hr
  obtain ⟨t, h, q1⟩ := law_rest (H0 := H) (E := E) (outer := outer) hr c_laid c_law_numbers c_law_good c_law_whole mlen mrange mlist misinstance mtuple q
  refine ⟨_, (pss_cons (ps_set (i := 1) nd rfl (Or.inl rfl) (pe_op op_add pe_int (pe_op op_mod (pe_fn c_law_cell_at hr (by decide) rfl (pa_cons (pv 0) (pa_cons pe_int pa_nil))) pe_int)))
  (pss_cons (ps_set (i := 2) nd rfl (Or.inl rfl) (pe_fn c_law_arcs hr (by decide) rfl (pa_cons (pv 0) (pa_cons pe_int (pa_cons (pv 1) pa_nil)))))
  (pss_cons (ps_set (i := 3) nd rfl (Or.inl rfl) (pe_fn c_law_arcs hr (by decide) rfl (pa_cons (pv 0) (pa_cons (pe_op op_add pe_int (pe_op op_mul pe_int (pv 1))) (pa_cons (pv 1) pa_nil)))))
  (pss_cons (ps_set (i := 4) nd rfl (Or.inr rfl) (pe_fn c_law_names hr (by decide) rfl (pa_cons (pv 2) (pa_cons (pv 3) pa_nil))))
  (pss_cons (ps_set (i := 5) nd rfl (Or.inr rfl) (pe_op op_cat (pe_comp (compOk (N' := ["k", "names"]) (js := [none, some 4]) (N := ["script", "size", "one", "other", "names", "outer", "due", "k", "rings", "handed", "turn", "found"]) (sc := defScope s_law) rfl rfl rfl (by decide +kernel) (by decide +kernel) (by decide +kernel) rfl (by decide +kernel)) rfl (pi_range1 rfl mrange (pa_cons (pv 1) pa_nil)) (fun _ _ _ _ _ => (pg_name (i := 0) (show [("k" : PySem.Str), ("names" : PySem.Str)].Nodup by decide +kernel) rfl (Or.inl rfl))) (fun _ _ _ _ _ => pf_nil) (fun _ _ _ _ _ => (pe_dget hu (pv 1) (pe_tup (pa_cons pe_str (pa_cons (pv 0) pa_nil))) (fun _ _ => rfl)))) (pe_comp (compOk (N' := ["k", "names"]) (js := [none, some 4]) (N := ["script", "size", "one", "other", "names", "outer", "due", "k", "rings", "handed", "turn", "found"]) (sc := defScope s_law) rfl rfl rfl (by decide +kernel) (by decide +kernel) (by decide +kernel) rfl (by decide +kernel)) rfl (pi_range2 rfl mrange (pa_cons (pv 1) (pa_cons (pe_op op_mul pe_int (pv 1)) pa_nil))) (fun _ _ _ _ _ => (pg_name (i := 0) (show [("k" : PySem.Str), ("names" : PySem.Str)].Nodup by decide +kernel) rfl (Or.inl rfl))) (fun _ _ _ _ _ => pf_nil) (fun _ _ _ _ _ => (pe_dget hu (pv 1) (pe_tup (pa_cons pe_str (pa_cons (pv 0) pa_nil))) (fun _ _ => rfl))))))
  (pss_cons (ps_set (i := 6) nd rfl (Or.inl rfl) (pe_lst pa_nil))
  (pss_cons (ps_for PassesOwn.never rfl (pi_range1 rfl mrange (pa_cons (pe_op op_mul pe_int (pv 1)) pa_nil)) (pg_name (i := 7) nd rfl (Or.inr rfl)) (pss_one (ps_expr (pe_bm PySem.F.plainAttrs_list PySem.F.slot_list_append PySem.F.type_list_append mt_append (pv 6) (pa_cons (pe_ix ix_list (pe_comp (compOk (N' := ["j", "k", "outer"]) (js := [none, some 7, some 5]) (N := ["script", "size", "one", "other", "names", "outer", "due", "k", "rings", "handed", "turn", "found"]) (sc := defScope s_law) rfl rfl rfl (by decide +kernel) (by decide +kernel) (by decide +kernel) rfl (by decide +kernel)) rfl (pi_range1 rfl mrange (pa_cons (pe_op op_mul pe_int (pv 1)) pa_nil)) (fun _ _ _ _ _ => (pg_name (i := 0) (show [("j" : PySem.Str), ("k" : PySem.Str), ("outer" : PySem.Str)].Nodup by decide +kernel) rfl (Or.inl rfl))) (fun _ _ _ _ _ => pf_one (PW.pt (pw_and (pt_cmpR op_ne (pv 0) (pv 1) (nomark _)) (pw_and1 (pt_cmpR op_eq (pe_ix (ix_listK (K := K) rfl) (pv 2) (pv 0) (fun _ _ => rfl)) (pe_ix (ix_listK (K := K) rfl) (pv 2) (pv 1) (fun _ _ => rfl)) (nomark _)))))) (fun _ _ _ _ _ => (pv 0))) pe_int (fun _ _ => rfl)) pa_nil)))))
  (pss_cons (ps_set (i := 8) nd rfl (Or.inl rfl) (pe_callB call_lenSet rfl mlen PySem.boot_len (pa_cons (pe_callTy (call_set rfl) rfl mset PySem.Pv.boot_set (pa_cons (pe_comp (compOk (N' := ["j", "names", "outer"]) (js := [none, some 4, some 5]) (N := ["script", "size", "one", "other", "names", "outer", "due", "k", "rings", "handed", "turn", "found"]) (sc := defScope s_law) rfl rfl rfl (by decide +kernel) (by decide +kernel) (by decide +kernel) rfl (by decide +kernel)) rfl (pi_range1 rfl mrange (pa_cons (pv 1) pa_nil)) (fun _ _ _ _ _ => (pg_name (i := 0) (show [("j" : PySem.Str), ("names" : PySem.Str), ("outer" : PySem.Str)].Nodup by decide +kernel) rfl (Or.inl rfl))) (fun _ _ _ _ _ => pf_one (pt_cmpR (op_notIn_seqK (K := K) rfl) (pe_dget hu (pv 1) (pe_tup (pa_cons pe_str (pa_cons (pv 0) pa_nil))) (fun _ _ => rfl)) (pv 2) (by with_unfolding_all rfl))) (fun _ _ _ _ _ => (pe_dget hu (pv 1) (pe_tup (pa_cons pe_str (pa_cons (pv 0) pa_nil))) (fun _ _ => rfl)))) pa_nil)) pa_nil)))
  h)))))))), ?_⟩
  obtain ⟨m, em⟩ : ∃ m : Nat, (m : Int) = 1 + cellAt ns 0 % 20 := ⟨(1 + cellAt ns 0 % 20).toNat, by omega⟩
  have m1 : 1 ≤ m := by omega
  have m2 : m ≤ 20 := by omega
  have e2m : ((2 : Int) * (m : Int)).toNat = 2 * m := by omega
  (repeat (first | refine ⟨_, rfl, ?_⟩ | refine ⟨_, _, rfl, rfl, ?_⟩ | refine ⟨rfl, ?_⟩ | refine ⟨_, _, rfl, .inl (by assumption), ?_⟩ | refine ⟨Or.inl ⟨by decide, by decide⟩, ?_⟩ | refine ⟨(by show (0 : Int) < _; decide), ?_⟩ | refine ⟨⟨by decide, by decide⟩, ?_⟩))
  refine ⟨a, ns, 0, rfl, hS, by decide, ?_⟩
  (repeat (first | refine ⟨_, rfl, ?_⟩ | refine ⟨_, _, rfl, rfl, ?_⟩ | refine ⟨rfl, ?_⟩ | refine ⟨_, _, rfl, .inl (by assumption), ?_⟩ | refine ⟨Or.inl ⟨by decide, by decide⟩, ?_⟩ | refine ⟨(by show (0 : Int) < _; decide), ?_⟩ | refine ⟨⟨by decide, by decide⟩, ?_⟩))
  dsimp only
  rw [← em]
  refine ⟨a, ns, 1, m, rfl, hS, by decide, by omega, by omega, fun r1 H1 x S1 hr1 X e1 => ?_⟩
  (repeat (first | refine ⟨_, rfl, ?_⟩ | refine ⟨_, _, rfl, rfl, ?_⟩ | refine ⟨rfl, ?_⟩ | refine ⟨_, _, rfl, .inl (by assumption), ?_⟩ | refine ⟨Or.inl ⟨by decide, by decide⟩, ?_⟩ | refine ⟨(by show (0 : Int) < _; decide), ?_⟩ | refine ⟨⟨by decide, by decide⟩, ?_⟩))
  refine ⟨a, ns, _, m, rfl, S1.seq hS, by omega, by omega, by omega, fun r2 H2 y S2 hr2 Y e2 => ?_⟩
  have e1' := S2 _ _ e1
  (repeat (first | refine ⟨_, rfl, ?_⟩ | refine ⟨_, _, rfl, rfl, ?_⟩ | refine ⟨rfl, ?_⟩ | refine ⟨_, _, rfl, .inl (by assumption), ?_⟩ | refine ⟨Or.inl ⟨by decide, by decide⟩, ?_⟩ | refine ⟨(by show (0 : Int) < _; decide), ?_⟩ | refine ⟨⟨by decide, by decide⟩, ?_⟩))
  refine ⟨r1, r2, m, x, y, rfl, SqL.of e1', SqL.of e2, X.pairs, Y.pairs, m1, m2, fun d H3 lab S3 hd hN L agree => ?_⟩
  have hl : ∀ p q, p < 4 * m → q < 4 * m → (lab p = lab q ↔ Conn (GT m x y) p q) := fun p q hp hq => L.same agree hp hq
  have f1 := S3 _ _ e1'
  have f2 := S3 _ _ e2
  (repeat (first | refine ⟨_, rfl, ?_⟩ | refine ⟨_, _, rfl, rfl, ?_⟩ | refine ⟨rfl, ?_⟩ | refine ⟨_, _, rfl, .inl (by assumption), ?_⟩ | refine ⟨Or.inl ⟨by decide, by decide⟩, ?_⟩ | refine ⟨(by show (0 : Int) < _; decide), ?_⟩ | refine ⟨⟨by decide, by decide⟩, ?_⟩))
  refine ⟨by omega, by omega, fun p1 hp1 => ?_⟩
  rw [Int.toNat_natCast]
  refine comp_all m (fun i => .int (lab i : Nat)) (fun σ => ∃ u, σ = [u, some (.ref d)]) (small60 (by omega)) ⟨_, rfl⟩ hp1 (fun i H' hi _ => hi) (fun H' _ => Nat.le_refl _) ?_ ?_
  · rintro i z σ' H' H4 k hi ⟨u, rfl⟩ S' ⟨rfl, rfl⟩ hk
    have e0 : (0 : Int) + (i : Int) = i := by omega
    rw [e0]
    (repeat (first | refine ⟨_, rfl, ?_⟩ | refine ⟨_, _, rfl, rfl, ?_⟩ | refine ⟨rfl, ?_⟩ | refine ⟨_, _, rfl, .inl (by assumption), ?_⟩ | refine ⟨Or.inl ⟨by decide, by decide⟩, ?_⟩ | refine ⟨(by show (0 : Int) < _; decide), ?_⟩ | refine ⟨⟨by decide, by decide⟩, ?_⟩))
    refine ⟨(by show 2 ≤ sizeLine; decide), fun t1 ht1 => ?_⟩
    have T1 := same_upd_new ht1 (.tup [.str "one", .int (i : Nat)])
    refine ⟨d, _, rfl, ((hN.same S').same T1).get (p := i) (by omega) (by rw [kp_one (by omega)]; exact upd_same), ?_⟩
    exact hk _ _ _ ⟨_, rfl⟩ rfl T1
  intro H4 S4 c4
  (repeat (first | refine ⟨_, rfl, ?_⟩ | refine ⟨_, _, rfl, rfl, ?_⟩ | refine ⟨rfl, ?_⟩ | refine ⟨_, _, rfl, .inl (by assumption), ?_⟩ | refine ⟨Or.inl ⟨by decide, by decide⟩, ?_⟩ | refine ⟨(by show (0 : Int) < _; decide), ?_⟩ | refine ⟨⟨by decide, by decide⟩, ?_⟩))
  refine ⟨_, _, rfl, ⟨by omega, by omega, by omega, by omega⟩, fun p2 hp2 => ?_⟩
  have e5 : ((2 : Int) * (m : Int) - (m : Int)).toNat = m := by omega
  rw [e5]
  refine comp_all m (fun i => .int (lab (2 * m + (m + i)) : Nat)) (fun σ => ∃ u, σ = [u, some (.ref d)]) (small60 (by omega)) ⟨_, rfl⟩ hp2 (fun i H' hi _ => hi) (fun H' _ => Nat.le_refl _) ?_ ?_
  · rintro i z σ' H' H5 k hi ⟨u, rfl⟩ S' ⟨rfl, rfl⟩ hk
    have e0 : (m : Int) + (i : Int) = ((m + i : Nat) : Int) := by omega
    rw [e0]
    (repeat (first | refine ⟨_, rfl, ?_⟩ | refine ⟨_, _, rfl, rfl, ?_⟩ | refine ⟨rfl, ?_⟩ | refine ⟨_, _, rfl, .inl (by assumption), ?_⟩ | refine ⟨Or.inl ⟨by decide, by decide⟩, ?_⟩ | refine ⟨(by show (0 : Int) < _; decide), ?_⟩ | refine ⟨⟨by decide, by decide⟩, ?_⟩))
    refine ⟨(by show 2 ≤ sizeLine; decide), fun t1 ht1 => ?_⟩
    have T1 := same_upd_new ht1 (.tup [.str "other", .int ((m + i : Nat) : Int)])
    refine ⟨d, _, rfl, (((hN.same S4).same S').same T1).get (p := 2 * m + (m + i)) (by omega) (by rw [kp_other]; exact upd_same), ?_⟩
    exact hk _ _ _ ⟨_, rfl⟩ rfl T1
  intro H5 S5 c5
  have c4' := S5 _ _ c4
  refine ⟨p1, p2, _, _, rfl, rfl, c4', c5, small60 (by simp; omega), fun lo hlo => ?_⟩
  have eO : (List.range m).map (fun i => V.int (lab i : Nat)) ++ (List.range m).map (fun i => V.int (lab (2 * m + (m + i)) : Nat)) = (tab (2 * m) fun k => lab (out m k)).map V.int := by
    apply List.ext_getElem?
    intro i
    by_cases c : i < m
    · rw [List.getElem?_append_left (by simpa using c), List.getElem?_map, List.getElem?_map, List.getElem?_range c, tab_get (by omega)]
      show some (V.int _) = some (V.int _)
      unfold out
      rw [if_pos c]
    · rw [List.getElem?_append_right (by simp; omega), List.getElem?_map, List.getElem?_map]
      simp only [List.length_map, List.length_range]
      by_cases c2 : i < 2 * m
      · rw [List.getElem?_range (by omega), tab_get c2]
        show some (V.int _) = some (V.int _)
        unfold out
        rw [if_neg c, show 2 * m + (m + (i - m)) = i + 2 * m by omega]
      · rw [List.getElem?_eq_none (by simp; omega), List.getElem?_eq_none (by rw [tab_length]; omega)]
        rfl
  rw [eO]
  have S6 := same_upd_new hlo (.lst ((tab (2 * m) fun k => lab (out m k)).map V.int))
  have co : upd H5 lo (.lst ((tab (2 * m) fun k => lab (out m k)).map V.int)) lo = some (.lst ((tab (2 * m) fun k => lab (out m k)).map V.int)) := upd_same
  have SA := S4.trans (S5.trans S6)
  have hN6 := hN.same SA
  have g1 := SA _ _ f1
  have g2 := SA _ _ f2
  generalize upd H5 lo (.lst ((tab (2 * m) fun k => lab (out m k)).map V.int)) = H6 at co SA hN6 g1 g2 ⊢
  have lo_at : ∀ {z : Nat}, z < 2 * m → atI ((tab (2 * m) fun k => lab (out m k)).map V.int) (z : Int) = some (.int (lab (out m z) : Nat)) := fun {z} hz => atI_int (by omega) (by rw [Int.toNat_natCast]; exact tab_get hz)
  (repeat (first | refine ⟨_, rfl, ?_⟩ | refine ⟨_, _, rfl, rfl, ?_⟩ | refine ⟨rfl, ?_⟩ | refine ⟨_, _, rfl, .inl (by assumption), ?_⟩ | refine ⟨Or.inl ⟨by decide, by decide⟩, ?_⟩ | refine ⟨(by show (0 : Int) < _; decide), ?_⟩ | refine ⟨⟨by decide, by decide⟩, ?_⟩))
  refine ⟨by decide, fun ld hld => ?_⟩
  have S7 := same_upd_new hld (.lst [])
  (repeat (first | refine ⟨_, rfl, ?_⟩ | refine ⟨_, _, rfl, rfl, ?_⟩ | refine ⟨rfl, ?_⟩ | refine ⟨_, _, rfl, .inl (by assumption), ?_⟩ | refine ⟨Or.inl ⟨by decide, by decide⟩, ?_⟩ | refine ⟨(by show (0 : Int) < _; decide), ?_⟩ | refine ⟨⟨by decide, by decide⟩, ?_⟩))
  refine ⟨by omega, by omega, ?_⟩
  rw [e2m]
  refine for_range (fun i σ H' => Same H6 H' ∧ H' ld = some (.lst ((tab i (laidF m x y)).map V.int)) ∧ ∃ u, σ = [some (.ref a), some (.int m), some (.ref r1), some (.ref r2), some (.ref d), some (.ref lo), some (.ref ld), u, none, none, none, none]) ?_ ?_ ?_
  · exact ⟨S7, upd_same, _, rfl⟩
  · rintro i σ H8 hi ⟨S8, c8, u, rfl⟩
    have e0 : (0 : Int) + (i : Int) = i := by omega
    rw [e0]
    (repeat (first | refine ⟨_, rfl, ?_⟩ | refine ⟨_, _, rfl, rfl, ?_⟩ | refine ⟨rfl, ?_⟩ | refine ⟨_, _, rfl, .inl (by assumption), ?_⟩ | refine ⟨Or.inl ⟨by decide, by decide⟩, ?_⟩ | refine ⟨(by show (0 : Int) < _; decide), ?_⟩ | refine ⟨⟨by decide, by decide⟩, ?_⟩))
    refine ⟨.inl ⟨rfl, _, SqL.of c8⟩, ?_⟩
    (repeat (first | refine ⟨_, rfl, ?_⟩ | refine ⟨_, _, rfl, rfl, ?_⟩ | refine ⟨rfl, ?_⟩ | refine ⟨_, _, rfl, .inl (by assumption), ?_⟩ | refine ⟨Or.inl ⟨by decide, by decide⟩, ?_⟩ | refine ⟨(by show (0 : Int) < _; decide), ?_⟩ | refine ⟨⟨by decide, by decide⟩, ?_⟩))
    refine ⟨by omega, by omega, fun p3 hp3 => ?_⟩
    rw [e2m]
    have co8 : SqL K H8 lo ((tab (2 * m) fun k => lab (out m k)).map V.int) := SqL.of (S8 _ _ co)
    refine comp_if (2 * m) (fun j => decide (j ≠ i ∧ lab (out m j) = lab (out m i))) (fun j => .int (j : Nat)) (fun σ => ∃ u, σ = [u, some (.int (i : Nat)), some (.ref lo)]) (small60 (by omega)) ⟨_, rfl⟩ hp3 (fun j H' hj _ => hj) (fun H' _ => Nat.le_refl _) ?_ ?_
    · rintro j z σ' H' H9 kT kF hj ⟨u, rfl⟩ S' ⟨rfl, rfl⟩ hT hF
      have e0' : (0 : Int) + (j : Int) = j := by omega
      rw [e0']
      (repeat (first | refine ⟨_, rfl, ?_⟩ | refine ⟨_, _, rfl, rfl, ?_⟩ | refine ⟨rfl, ?_⟩ | refine ⟨_, _, rfl, .inl (by assumption), ?_⟩ | refine ⟨Or.inl ⟨by decide, by decide⟩, ?_⟩ | refine ⟨(by show (0 : Int) < _; decide), ?_⟩ | refine ⟨⟨by decide, by decide⟩, ?_⟩))
      refine ite2 (fun c => ?_) (fun c => ?_)
      · have c' : j ≠ i := fun z => ne_yes c (by rw [z])
        (repeat (first | refine ⟨_, rfl, ?_⟩ | refine ⟨_, _, rfl, rfl, ?_⟩ | refine ⟨rfl, ?_⟩ | refine ⟨_, _, rfl, .inl (by assumption), ?_⟩ | refine ⟨Or.inl ⟨by decide, by decide⟩, ?_⟩ | refine ⟨(by show (0 : Int) < _; decide), ?_⟩ | refine ⟨⟨by decide, by decide⟩, ?_⟩))
        refine ⟨lo, _, _, _, rfl, rfl, S'.seq co8, lo_at hj, ?_⟩
        (repeat (first | refine ⟨_, rfl, ?_⟩ | refine ⟨_, _, rfl, rfl, ?_⟩ | refine ⟨rfl, ?_⟩ | refine ⟨_, _, rfl, .inl (by assumption), ?_⟩ | refine ⟨Or.inl ⟨by decide, by decide⟩, ?_⟩ | refine ⟨(by show (0 : Int) < _; decide), ?_⟩ | refine ⟨⟨by decide, by decide⟩, ?_⟩))
        refine ⟨lo, _, _, _, rfl, rfl, S'.seq co8, lo_at hi, ?_⟩
        (repeat (first | refine ⟨_, rfl, ?_⟩ | refine ⟨_, _, rfl, rfl, ?_⟩ | refine ⟨rfl, ?_⟩ | refine ⟨_, _, rfl, .inl (by assumption), ?_⟩ | refine ⟨Or.inl ⟨by decide, by decide⟩, ?_⟩ | refine ⟨(by show (0 : Int) < _; decide), ?_⟩ | refine ⟨⟨by decide, by decide⟩, ?_⟩))
        refine ite2 (fun c2 => ?_) (fun c2 => ?_)
        · (repeat (first | refine ⟨_, rfl, ?_⟩ | refine ⟨_, _, rfl, rfl, ?_⟩ | refine ⟨rfl, ?_⟩ | refine ⟨_, _, rfl, .inl (by assumption), ?_⟩ | refine ⟨Or.inl ⟨by decide, by decide⟩, ?_⟩ | refine ⟨(by show (0 : Int) < _; decide), ?_⟩ | refine ⟨⟨by decide, by decide⟩, ?_⟩))
          refine hT (decide_eq_true ⟨c', ?_⟩) _ _ _ ⟨_, rfl⟩ rfl (Same.refl _)
          have := eq_yes c2
          omega
        · refine hF (decide_eq_false fun z => eq_no c2 (by rw [z.2])) _ _ ⟨_, rfl⟩ (Same.refl _)
      · have c' : j = i := by have := ne_no c; omega
        (try refine iteF ?_)
        exact hF (decide_eq_false fun z => z.1 c') _ _ ⟨_, rfl⟩ (Same.refl _)
    intro H9 S9 c9
    rw [due_at X Y hl hi] at c9
    (repeat (first | refine ⟨_, rfl, ?_⟩ | refine ⟨_, _, rfl, rfl, ?_⟩ | refine ⟨rfl, ?_⟩ | refine ⟨_, _, rfl, .inl (by assumption), ?_⟩ | refine ⟨Or.inl ⟨by decide, by decide⟩, ?_⟩ | refine ⟨(by show (0 : Int) < _; decide), ?_⟩ | refine ⟨⟨by decide, by decide⟩, ?_⟩))
    refine ⟨p3, _, _, .int (laidF m x y i : Nat), rfl, rfl, SqL.of c9, rfl, ?_⟩
    (repeat (first | refine ⟨_, rfl, ?_⟩ | refine ⟨_, _, rfl, rfl, ?_⟩ | refine ⟨rfl, ?_⟩ | refine ⟨_, _, rfl, .inl (by assumption), ?_⟩ | refine ⟨Or.inl ⟨by decide, by decide⟩, ?_⟩ | refine ⟨(by show (0 : Int) < _; decide), ?_⟩ | refine ⟨⟨by decide, by decide⟩, ?_⟩))
    refine ⟨ld, _, _, rfl, rfl, S9 _ _ c8, by rw [List.length_map, tab_length]; exact small1000 (by omega), ?_⟩
    refine ⟨(S8.trans S9).upd hld _, ?_, _, rfl⟩
    rw [upd_same]
    unfold tab
    rw [List.range_succ, List.map_append, List.map_append]
    rfl
  · rintro σ H8 ⟨S8, c8, u, rfl⟩
    have co8 : SqL K H8 lo ((tab (2 * m) fun k => lab (out m k)).map V.int) := SqL.of (S8 _ _ co)
    have hN8 := hN6.same S8
    (repeat (first | refine ⟨_, rfl, ?_⟩ | refine ⟨_, _, rfl, rfl, ?_⟩ | refine ⟨rfl, ?_⟩ | refine ⟨_, _, rfl, .inl (by assumption), ?_⟩ | refine ⟨Or.inl ⟨by decide, by decide⟩, ?_⟩ | refine ⟨(by show (0 : Int) < _; decide), ?_⟩ | refine ⟨⟨by decide, by decide⟩, ?_⟩))
    refine ⟨by omega, by omega, fun p4 hp4 => ?_⟩
    rw [Int.toNat_natCast]
    refine comp_if m (fun j => decide (lab (2 * m + j) ∉ (List.range (2 * m)).map fun k => lab (out m k))) (fun j => .int (lab (2 * m + j) : Nat)) (fun σ => ∃ u, σ = [u, some (.ref d), some (.ref lo)]) (small60 (by omega)) ⟨_, rfl⟩ hp4 (fun j H' hj _ => hj) (fun H' _ => Nat.le_refl _) ?_ ?_
    · rintro j z σ' H' H9 kT kF hj ⟨u, rfl⟩ S' ⟨rfl, rfl⟩ hT hF
      have e0' : (0 : Int) + (j : Int) = j := by omega
      rw [e0']
      (repeat (first | refine ⟨_, rfl, ?_⟩ | refine ⟨_, _, rfl, rfl, ?_⟩ | refine ⟨rfl, ?_⟩ | refine ⟨_, _, rfl, .inl (by assumption), ?_⟩ | refine ⟨Or.inl ⟨by decide, by decide⟩, ?_⟩ | refine ⟨(by show (0 : Int) < _; decide), ?_⟩ | refine ⟨⟨by decide, by decide⟩, ?_⟩))
      refine ⟨(by show 2 ≤ sizeLine; decide), fun t1 ht1 => ?_⟩
      have T1 := same_upd_new ht1 (.tup [.str "other", .int (j : Nat)])
      refine ⟨d, _, rfl, ((hN8.same S').same T1).get (p := 2 * m + j) (by omega) (by rw [kp_other]; exact upd_same), ?_⟩
      (repeat (first | refine ⟨_, rfl, ?_⟩ | refine ⟨_, _, rfl, rfl, ?_⟩ | refine ⟨rfl, ?_⟩ | refine ⟨_, _, rfl, .inl (by assumption), ?_⟩ | refine ⟨Or.inl ⟨by decide, by decide⟩, ?_⟩ | refine ⟨(by show (0 : Int) < _; decide), ?_⟩ | refine ⟨⟨by decide, by decide⟩, ?_⟩))
      refine ⟨lo, _, rfl, .inl (T1.seq (S'.seq co8)), rfl, flat_ints _, ?_⟩
      have ein : inV (.int (lab (2 * m + j) : Nat)) ((tab (2 * m) fun k => lab (out m k)).map V.int) = decide (lab (2 * m + j) ∈ (List.range (2 * m)).map fun k => lab (out m k)) := by
        rw [ni_tab]
        exact inV_ni _ _
      (repeat (first | refine ⟨_, rfl, ?_⟩ | refine ⟨_, _, rfl, rfl, ?_⟩ | refine ⟨rfl, ?_⟩ | refine ⟨_, _, rfl, .inl (by assumption), ?_⟩ | refine ⟨Or.inl ⟨by decide, by decide⟩, ?_⟩ | refine ⟨(by show (0 : Int) < _; decide), ?_⟩ | refine ⟨⟨by decide, by decide⟩, ?_⟩))
      rw [if_pos rfl, ein]
      refine ite2 (fun c => ?_) (fun c => ?_)
      · have c' : lab (2 * m + j) ∉ (List.range (2 * m)).map fun k => lab (out m k) := by
          intro z; rw [decide_eq_true z] at c; exact absurd c (by decide)
        (repeat (first | refine ⟨_, rfl, ?_⟩ | refine ⟨_, _, rfl, rfl, ?_⟩ | refine ⟨rfl, ?_⟩ | refine ⟨_, _, rfl, .inl (by assumption), ?_⟩ | refine ⟨Or.inl ⟨by decide, by decide⟩, ?_⟩ | refine ⟨(by show (0 : Int) < _; decide), ?_⟩ | refine ⟨⟨by decide, by decide⟩, ?_⟩))
        refine ⟨(by show 2 ≤ sizeLine; decide), fun t2 ht2 => ?_⟩
        have T2 := same_upd_new ht2 (.tup [.str "other", .int (j : Nat)])
        refine ⟨d, _, rfl, (((hN8.same S').same T1).same T2).get (p := 2 * m + j) (by omega) (by rw [kp_other]; exact upd_same), ?_⟩
        exact hT (decide_eq_true c') _ _ _ ⟨_, rfl⟩ rfl (T1.trans T2)
      · have c' : ¬ lab (2 * m + j) ∉ (List.range (2 * m)).map fun k => lab (out m k) := by
          intro z; exact c (by rw [decide_eq_false z]; rfl)
        exact hF (decide_eq_false c') _ _ ⟨_, rfl⟩ T1
    intro H9 S9 c9
    have c9' : H9 p4 = some (.lst ((ni (((List.range m).filter fun j => decide (lab (2 * m + j) ∉ (List.range (2 * m)).map fun k => lab (out m k))).map fun j => lab (2 * m + j))).map V.int)) := by
      rw [c9]
      unfold ni
      rw [List.map_map, List.map_map]
      rfl
    (repeat (first | refine ⟨_, rfl, ?_⟩ | refine ⟨_, _, rfl, rfl, ?_⟩ | refine ⟨rfl, ?_⟩ | refine ⟨_, _, rfl, .inl (by assumption), ?_⟩ | refine ⟨Or.inl ⟨by decide, by decide⟩, ?_⟩ | refine ⟨(by show (0 : Int) < _; decide), ?_⟩ | refine ⟨⟨by decide, by decide⟩, ?_⟩))
    refine ⟨p4, _, rfl, SqL.of c9', ?_, fun l10 S10 hl10 => ?_⟩
    · rw [ni_length, List.length_map]
      have := List.length_filter_le (fun j => decide (lab (2 * m + j) ∉ (List.range (2 * m)).map fun k => lab (out m k))) (List.range m)
      rw [List.length_range] at this
      omega
    (repeat (first | refine ⟨_, rfl, ?_⟩ | refine ⟨_, _, rfl, rfl, ?_⟩ | refine ⟨rfl, ?_⟩ | refine ⟨_, _, rfl, .inl (by assumption), ?_⟩ | refine ⟨Or.inl ⟨by decide, by decide⟩, ?_⟩ | refine ⟨(by show (0 : Int) < _; decide), ?_⟩ | refine ⟨⟨by decide, by decide⟩, ?_⟩))
    refine ⟨l10, _, _, rfl, upd_same, ?_⟩
    rw [firstMet_ded, rings_at X Y L hl]
    (repeat (first | refine ⟨_, rfl, ?_⟩ | refine ⟨_, _, rfl, rfl, ?_⟩ | refine ⟨rfl, ?_⟩ | refine ⟨_, _, rfl, .inl (by assumption), ?_⟩ | refine ⟨Or.inl ⟨by decide, by decide⟩, ?_⟩ | refine ⟨(by show (0 : Int) < _; decide), ?_⟩ | refine ⟨⟨by decide, by decide⟩, ?_⟩))
    have SS := S8.trans (S9.trans (same_upd_new hl10 (.set S10 (rgs m x y))))
    have SZ := S9.trans (same_upd_new hl10 (.set S10 (rgs m x y)))
    exact q1 _ a r1 r2 ld m x y _ _ _ m1 m2 X Y (SS _ _ g1) (SS _ _ g2) (SZ _ _ c8)

end
end Rl
namespace Rl
open PySem L2
theorem all_mk {l : PySem.W.OpenLaw} {w : World} {K : PySem.W.Frag} {h : Heap} {mg : Str → Option Value} {fa : Addr} (X : K.In h) (G : h.Ns mainGlobals mg) (hfa : mg "law" = some (.ref fa))
    {f_is_length : Addr} {od_is_length an_is_length : Option Addr} {sl_is_length : Array (Option Value)} {oc_is_length kV_is_length dc_is_length pm_is_length cd_is_length ct_is_length : Value}
    (a_is_length : PySem.W.nsIn K mainGlobals "is_length" = some (some (.ref f_is_length))) (l_is_length : K.lookup f_is_length = some ⟨oc_is_length, od_is_length, .func (PySem.W.fnOf "is_length" "is_length" (defArgs s_is_length) (defBody s_is_length) (defScope s_is_length) .none kV_is_length dc_is_length pm_is_length an_is_length cd_is_length ct_is_length), sl_is_length⟩) (i_is_length : PySem.W.codeIn K cd_is_length "is_length" = true) (k_is_length : PySem.W.keepIn K (.ref f_is_length) = true)
    {f_leads_back : Addr} {od_leads_back an_leads_back : Option Addr} {sl_leads_back : Array (Option Value)} {oc_leads_back kV_leads_back dc_leads_back pm_leads_back cd_leads_back ct_leads_back : Value}
    (a_leads_back : PySem.W.nsIn K mainGlobals "leads_back" = some (some (.ref f_leads_back))) (l_leads_back : K.lookup f_leads_back = some ⟨oc_leads_back, od_leads_back, .func (PySem.W.fnOf "leads_back" "leads_back" (defArgs s_leads_back) (defBody s_leads_back) (defScope s_leads_back) .none kV_leads_back dc_leads_back pm_leads_back an_leads_back cd_leads_back ct_leads_back), sl_leads_back⟩) (i_leads_back : PySem.W.codeIn K cd_leads_back "leads_back" = true) (k_leads_back : PySem.W.keepIn K (.ref f_leads_back) = true)
    {f_all_lead_back : Addr} {od_all_lead_back an_all_lead_back : Option Addr} {sl_all_lead_back : Array (Option Value)} {oc_all_lead_back kV_all_lead_back dc_all_lead_back pm_all_lead_back cd_all_lead_back ct_all_lead_back : Value}
    (a_all_lead_back : PySem.W.nsIn K mainGlobals "all_lead_back" = some (some (.ref f_all_lead_back))) (l_all_lead_back : K.lookup f_all_lead_back = some ⟨oc_all_lead_back, od_all_lead_back, .func (PySem.W.fnOf "all_lead_back" "all_lead_back" (defArgs s_all_lead_back) (defBody s_all_lead_back) (defScope s_all_lead_back) .none kV_all_lead_back dc_all_lead_back pm_all_lead_back an_all_lead_back cd_all_lead_back ct_all_lead_back), sl_all_lead_back⟩) (i_all_lead_back : PySem.W.codeIn K cd_all_lead_back "all_lead_back" = true) (k_all_lead_back : PySem.W.keepIn K (.ref f_all_lead_back) = true)
    {f_none_cross : Addr} {od_none_cross an_none_cross : Option Addr} {sl_none_cross : Array (Option Value)} {oc_none_cross kV_none_cross dc_none_cross pm_none_cross cd_none_cross ct_none_cross : Value}
    (a_none_cross : PySem.W.nsIn K mainGlobals "none_cross" = some (some (.ref f_none_cross))) (l_none_cross : K.lookup f_none_cross = some ⟨oc_none_cross, od_none_cross, .func (PySem.W.fnOf "none_cross" "none_cross" (defArgs s_none_cross) (defBody s_none_cross) (defScope s_none_cross) .none kV_none_cross dc_none_cross pm_none_cross an_none_cross cd_none_cross ct_none_cross), sl_none_cross⟩) (i_none_cross : PySem.W.codeIn K cd_none_cross "none_cross" = true) (k_none_cross : PySem.W.keepIn K (.ref f_none_cross) = true)
    {f_is_arcs : Addr} {od_is_arcs an_is_arcs : Option Addr} {sl_is_arcs : Array (Option Value)} {oc_is_arcs kV_is_arcs dc_is_arcs pm_is_arcs cd_is_arcs ct_is_arcs : Value}
    (a_is_arcs : PySem.W.nsIn K mainGlobals "is_arcs" = some (some (.ref f_is_arcs))) (l_is_arcs : K.lookup f_is_arcs = some ⟨oc_is_arcs, od_is_arcs, .func (PySem.W.fnOf "is_arcs" "is_arcs" (defArgs s_is_arcs) (defBody s_is_arcs) (defScope s_is_arcs) .none kV_is_arcs dc_is_arcs pm_is_arcs an_is_arcs cd_is_arcs ct_is_arcs), sl_is_arcs⟩) (i_is_arcs : PySem.W.codeIn K cd_is_arcs "is_arcs" = true) (k_is_arcs : PySem.W.keepIn K (.ref f_is_arcs) = true)
    {f_refuse_no_arcs : Addr} {od_refuse_no_arcs an_refuse_no_arcs : Option Addr} {sl_refuse_no_arcs : Array (Option Value)} {oc_refuse_no_arcs kV_refuse_no_arcs dc_refuse_no_arcs pm_refuse_no_arcs cd_refuse_no_arcs ct_refuse_no_arcs : Value}
    {T_refuse_no_arcs : Addr} {ot_refuse_no_arcs : Obj} {tn_refuse_no_arcs : Nat} {tt_refuse_no_arcs : Tok}
    (a_refuse_no_arcs : PySem.W.nsIn K mainGlobals "refuse_no_arcs" = some (some (.ref f_refuse_no_arcs))) (l_refuse_no_arcs : K.lookup f_refuse_no_arcs = some ⟨oc_refuse_no_arcs, od_refuse_no_arcs, .func (PySem.W.fnOf "refuse_no_arcs" "refuse_no_arcs" (defArgs s_refuse_no_arcs) (defBody s_refuse_no_arcs) (defScope s_refuse_no_arcs) (.ref T_refuse_no_arcs) kV_refuse_no_arcs dc_refuse_no_arcs pm_refuse_no_arcs an_refuse_no_arcs cd_refuse_no_arcs ct_refuse_no_arcs), sl_refuse_no_arcs⟩) (i_refuse_no_arcs : PySem.W.codeIn K cd_refuse_no_arcs "refuse_no_arcs" = true) (k_refuse_no_arcs : PySem.W.keepIn K (.ref f_refuse_no_arcs) = true)
    (t_refuse_no_arcs : K.lookup T_refuse_no_arcs = some ot_refuse_no_arcs) (d_refuse_no_arcs : ot_refuse_no_arcs.data = .seq #[.str "the list" tt_refuse_no_arcs] tn_refuse_no_arcs)
    {f_refuse_no_rows : Addr} {od_refuse_no_rows an_refuse_no_rows : Option Addr} {sl_refuse_no_rows : Array (Option Value)} {oc_refuse_no_rows kV_refuse_no_rows dc_refuse_no_rows pm_refuse_no_rows cd_refuse_no_rows ct_refuse_no_rows : Value}
    (a_refuse_no_rows : PySem.W.nsIn K mainGlobals "refuse_no_rows" = some (some (.ref f_refuse_no_rows))) (l_refuse_no_rows : K.lookup f_refuse_no_rows = some ⟨oc_refuse_no_rows, od_refuse_no_rows, .func (PySem.W.fnOf "refuse_no_rows" "refuse_no_rows" (defArgs s_refuse_no_rows) (defBody s_refuse_no_rows) (defScope s_refuse_no_rows) .none kV_refuse_no_rows dc_refuse_no_rows pm_refuse_no_rows an_refuse_no_rows cd_refuse_no_rows ct_refuse_no_rows), sl_refuse_no_rows⟩) (i_refuse_no_rows : PySem.W.codeIn K cd_refuse_no_rows "refuse_no_rows" = true) (k_refuse_no_rows : PySem.W.keepIn K (.ref f_refuse_no_rows) = true)
    {f_refuse_unlike : Addr} {od_refuse_unlike an_refuse_unlike : Option Addr} {sl_refuse_unlike : Array (Option Value)} {oc_refuse_unlike kV_refuse_unlike dc_refuse_unlike pm_refuse_unlike cd_refuse_unlike ct_refuse_unlike : Value}
    (a_refuse_unlike : PySem.W.nsIn K mainGlobals "refuse_unlike" = some (some (.ref f_refuse_unlike))) (l_refuse_unlike : K.lookup f_refuse_unlike = some ⟨oc_refuse_unlike, od_refuse_unlike, .func (PySem.W.fnOf "refuse_unlike" "refuse_unlike" (defArgs s_refuse_unlike) (defBody s_refuse_unlike) (defScope s_refuse_unlike) .none kV_refuse_unlike dc_refuse_unlike pm_refuse_unlike an_refuse_unlike cd_refuse_unlike ct_refuse_unlike), sl_refuse_unlike⟩) (i_refuse_unlike : PySem.W.codeIn K cd_refuse_unlike "refuse_unlike" = true) (k_refuse_unlike : PySem.W.keepIn K (.ref f_refuse_unlike) = true)
    {f_in_one_row : Addr} {od_in_one_row an_in_one_row : Option Addr} {sl_in_one_row : Array (Option Value)} {oc_in_one_row kV_in_one_row dc_in_one_row pm_in_one_row cd_in_one_row ct_in_one_row : Value}
    (a_in_one_row : PySem.W.nsIn K mainGlobals "in_one_row" = some (some (.ref f_in_one_row))) (l_in_one_row : K.lookup f_in_one_row = some ⟨oc_in_one_row, od_in_one_row, .func (PySem.W.fnOf "in_one_row" "in_one_row" (defArgs s_in_one_row) (defBody s_in_one_row) (defScope s_in_one_row) .none kV_in_one_row dc_in_one_row pm_in_one_row an_in_one_row cd_in_one_row ct_in_one_row), sl_in_one_row⟩) (i_in_one_row : PySem.W.codeIn K cd_in_one_row "in_one_row" = true) (k_in_one_row : PySem.W.keepIn K (.ref f_in_one_row) = true)
    {f_is_end : Addr} {od_is_end an_is_end : Option Addr} {sl_is_end : Array (Option Value)} {oc_is_end kV_is_end dc_is_end pm_is_end cd_is_end ct_is_end : Value}
    (a_is_end : PySem.W.nsIn K mainGlobals "is_end" = some (some (.ref f_is_end))) (l_is_end : K.lookup f_is_end = some ⟨oc_is_end, od_is_end, .func (PySem.W.fnOf "is_end" "is_end" (defArgs s_is_end) (defBody s_is_end) (defScope s_is_end) .none kV_is_end dc_is_end pm_is_end an_is_end cd_is_end ct_is_end), sl_is_end⟩) (i_is_end : PySem.W.codeIn K cd_is_end "is_end" = true) (k_is_end : PySem.W.keepIn K (.ref f_is_end) = true)
    {f_way_from : Addr} {od_way_from an_way_from : Option Addr} {sl_way_from : Array (Option Value)} {oc_way_from kV_way_from dc_way_from pm_way_from cd_way_from ct_way_from : Value}
    (a_way_from : PySem.W.nsIn K mainGlobals "way_from" = some (some (.ref f_way_from))) (l_way_from : K.lookup f_way_from = some ⟨oc_way_from, od_way_from, .func (PySem.W.fnOf "way_from" "way_from" (defArgs s_way_from) (defBody s_way_from) (defScope s_way_from) .none kV_way_from dc_way_from pm_way_from an_way_from cd_way_from ct_way_from), sl_way_from⟩) (i_way_from : PySem.W.codeIn K cd_way_from "way_from" = true) (k_way_from : PySem.W.keepIn K (.ref f_way_from) = true)
    {f_many_rings : Addr} {od_many_rings an_many_rings : Option Addr} {sl_many_rings : Array (Option Value)} {oc_many_rings kV_many_rings dc_many_rings pm_many_rings cd_many_rings ct_many_rings : Value}
    (a_many_rings : PySem.W.nsIn K mainGlobals "many_rings" = some (some (.ref f_many_rings))) (l_many_rings : K.lookup f_many_rings = some ⟨oc_many_rings, od_many_rings, .func (PySem.W.fnOf "many_rings" "many_rings" (defArgs s_many_rings) (defBody s_many_rings) (defScope s_many_rings) .none kV_many_rings dc_many_rings pm_many_rings an_many_rings cd_many_rings ct_many_rings), sl_many_rings⟩) (i_many_rings : PySem.W.codeIn K cd_many_rings "many_rings" = true) (k_many_rings : PySem.W.keepIn K (.ref f_many_rings) = true)
    {f_laid : Addr} {od_laid an_laid : Option Addr} {sl_laid : Array (Option Value)} {oc_laid kV_laid dc_laid pm_laid cd_laid ct_laid : Value}
    (a_laid : PySem.W.nsIn K mainGlobals "laid" = some (some (.ref f_laid))) (l_laid : K.lookup f_laid = some ⟨oc_laid, od_laid, .func (PySem.W.fnOf "laid" "laid" (defArgs s_laid) (defBody s_laid) (defScope s_laid) .none kV_laid dc_laid pm_laid an_laid cd_laid ct_laid), sl_laid⟩) (i_laid : PySem.W.codeIn K cd_laid "laid" = true) (k_laid : PySem.W.keepIn K (.ref f_laid) = true)
    {f_law_cell_at : Addr} {od_law_cell_at an_law_cell_at : Option Addr} {sl_law_cell_at : Array (Option Value)} {oc_law_cell_at kV_law_cell_at dc_law_cell_at pm_law_cell_at cd_law_cell_at ct_law_cell_at : Value}
    (a_law_cell_at : PySem.W.nsIn K mainGlobals "_law_cell_at" = some (some (.ref f_law_cell_at))) (l_law_cell_at : K.lookup f_law_cell_at = some ⟨oc_law_cell_at, od_law_cell_at, .func (PySem.W.fnOf "_law_cell_at" "_law_cell_at" (defArgs s_law_cell_at) (defBody s_law_cell_at) (defScope s_law_cell_at) .none kV_law_cell_at dc_law_cell_at pm_law_cell_at an_law_cell_at cd_law_cell_at ct_law_cell_at), sl_law_cell_at⟩) (i_law_cell_at : PySem.W.codeIn K cd_law_cell_at "_law_cell_at" = true) (k_law_cell_at : PySem.W.keepIn K (.ref f_law_cell_at) = true)
    {f_law_whole : Addr} {od_law_whole an_law_whole : Option Addr} {sl_law_whole : Array (Option Value)} {oc_law_whole kV_law_whole dc_law_whole pm_law_whole cd_law_whole ct_law_whole : Value}
    (a_law_whole : PySem.W.nsIn K mainGlobals "_law_whole" = some (some (.ref f_law_whole))) (l_law_whole : K.lookup f_law_whole = some ⟨oc_law_whole, od_law_whole, .func (PySem.W.fnOf "_law_whole" "_law_whole" (defArgs s_law_whole) (defBody s_law_whole) (defScope s_law_whole) .none kV_law_whole dc_law_whole pm_law_whole an_law_whole cd_law_whole ct_law_whole), sl_law_whole⟩) (i_law_whole : PySem.W.codeIn K cd_law_whole "_law_whole" = true) (k_law_whole : PySem.W.keepIn K (.ref f_law_whole) = true)
    {f_law_numbers : Addr} {od_law_numbers an_law_numbers : Option Addr} {sl_law_numbers : Array (Option Value)} {oc_law_numbers kV_law_numbers dc_law_numbers pm_law_numbers cd_law_numbers ct_law_numbers : Value}
    (a_law_numbers : PySem.W.nsIn K mainGlobals "_law_numbers" = some (some (.ref f_law_numbers))) (l_law_numbers : K.lookup f_law_numbers = some ⟨oc_law_numbers, od_law_numbers, .func (PySem.W.fnOf "_law_numbers" "_law_numbers" (defArgs s_law_numbers) (defBody s_law_numbers) (defScope s_law_numbers) .none kV_law_numbers dc_law_numbers pm_law_numbers an_law_numbers cd_law_numbers ct_law_numbers), sl_law_numbers⟩) (i_law_numbers : PySem.W.codeIn K cd_law_numbers "_law_numbers" = true) (k_law_numbers : PySem.W.keepIn K (.ref f_law_numbers) = true)
    {f_law_arcs : Addr} {od_law_arcs an_law_arcs : Option Addr} {sl_law_arcs : Array (Option Value)} {oc_law_arcs kV_law_arcs dc_law_arcs pm_law_arcs cd_law_arcs ct_law_arcs : Value}
    (a_law_arcs : PySem.W.nsIn K mainGlobals "_law_arcs" = some (some (.ref f_law_arcs))) (l_law_arcs : K.lookup f_law_arcs = some ⟨oc_law_arcs, od_law_arcs, .func (PySem.W.fnOf "_law_arcs" "_law_arcs" (defArgs s_law_arcs) (defBody s_law_arcs) (defScope s_law_arcs) .none kV_law_arcs dc_law_arcs pm_law_arcs an_law_arcs cd_law_arcs ct_law_arcs), sl_law_arcs⟩) (i_law_arcs : PySem.W.codeIn K cd_law_arcs "_law_arcs" = true) (k_law_arcs : PySem.W.keepIn K (.ref f_law_arcs) = true)
    {f_law_good : Addr} {od_law_good an_law_good : Option Addr} {sl_law_good : Array (Option Value)} {oc_law_good kV_law_good dc_law_good pm_law_good cd_law_good ct_law_good : Value}
    (a_law_good : PySem.W.nsIn K mainGlobals "_law_good" = some (some (.ref f_law_good))) (l_law_good : K.lookup f_law_good = some ⟨oc_law_good, od_law_good, .func (PySem.W.fnOf "_law_good" "_law_good" (defArgs s_law_good) (defBody s_law_good) (defScope s_law_good) .none kV_law_good dc_law_good pm_law_good an_law_good cd_law_good ct_law_good), sl_law_good⟩) (i_law_good : PySem.W.codeIn K cd_law_good "_law_good" = true) (k_law_good : PySem.W.keepIn K (.ref f_law_good) = true)
    {f_law_names : Addr} {od_law_names an_law_names : Option Addr} {sl_law_names : Array (Option Value)} {oc_law_names kV_law_names dc_law_names pm_law_names cd_law_names ct_law_names : Value}
    (a_law_names : PySem.W.nsIn K mainGlobals "_law_names" = some (some (.ref f_law_names))) (l_law_names : K.lookup f_law_names = some ⟨oc_law_names, od_law_names, .func (PySem.W.fnOf "_law_names" "_law_names" (defArgs s_law_names) (defBody s_law_names) (defScope s_law_names) .none kV_law_names dc_law_names pm_law_names an_law_names cd_law_names ct_law_names), sl_law_names⟩) (i_law_names : PySem.W.codeIn K cd_law_names "_law_names" = true) (k_law_names : PySem.W.keepIn K (.ref f_law_names) = true)
    {f_law : Addr} {od_law an_law : Option Addr} {sl_law : Array (Option Value)} {oc_law kV_law dc_law pm_law cd_law ct_law : Value}
    (a_law : PySem.W.nsIn K mainGlobals "law" = some (some (.ref f_law))) (l_law : K.lookup f_law = some ⟨oc_law, od_law, .func (PySem.W.fnOf "law" "law" (defArgs s_law) (defBody s_law) (defScope s_law) .none kV_law dc_law pm_law an_law cd_law ct_law), sl_law⟩) (i_law : PySem.W.codeIn K cd_law "law" = true) (k_law : PySem.W.keepIn K (.ref f_law) = true)
    (z_bool : PySem.W.nsIn K mainGlobals "bool" = some none)
    (z_enumerate : PySem.W.nsIn K mainGlobals "enumerate" = some none)
    (z_int : PySem.W.nsIn K mainGlobals "int" = some none)
    (z_isinstance : PySem.W.nsIn K mainGlobals "isinstance" = some none)
    (z_len : PySem.W.nsIn K mainGlobals "len" = some none)
    (z_list : PySem.W.nsIn K mainGlobals "list" = some none)
    (z_min : PySem.W.nsIn K mainGlobals "min" = some none)
    (z_range : PySem.W.nsIn K mainGlobals "range" = some none)
    (z_set : PySem.W.nsIn K mainGlobals "set" = some none)
    (z_tuple : PySem.W.nsIn K mainGlobals "tuple" = some none)
    {g_MOST_ARCS : Tok} (y_MOST_ARCS : PySem.W.nsIn K mainGlobals "MOST_ARCS" = some (some (.int 20 g_MOST_ARCS)))
    (kib : PySem.W.kitOne K (.type "int") (.type "bool") = some false) :
    ∃ fd : FuncData, (∀ (s : Shared) (v : Value), BindsTo s fd ⟨[v], []⟩ [("script", v)]) ∧ ∀ base : Heap, K.In base → base.Ns mainGlobals mg → FnOk l.prog w K mg base CX0 8 fa fd ["script"] (sp_law K) := by
  have e := hfa.symm.trans (PySem.W.mg_of X G a_law)
  cases e
  have mbool := PySem.W.mg_none_of X G z_bool
  have menumerate := PySem.W.mg_none_of X G z_enumerate
  have mint := PySem.W.mg_none_of X G z_int
  have misinstance := PySem.W.mg_none_of X G z_isinstance
  have mlen := PySem.W.mg_none_of X G z_len
  have mlist := PySem.W.mg_none_of X G z_list
  have mmin := PySem.W.mg_none_of X G z_min
  have mrange := PySem.W.mg_none_of X G z_range
  have mset := PySem.W.mg_none_of X G z_set
  have mtuple := PySem.W.mg_none_of X G z_tuple
  have mMOST_ARCS := PySem.W.mg_of X G y_MOST_ARCS
  have F_is_length := funD_mk (st := s_is_length) l_is_length i_is_length k_is_length
  have b_is_length := F_is_length.binds (ps := ["bridges"]) (fun _ _ _ _ _ _ us hl => match us, hl with | [_], _ => rfl)
  have F_leads_back := funD_mk (st := s_leads_back) l_leads_back i_leads_back k_leads_back
  have b_leads_back := F_leads_back.binds (ps := ["some", "here"]) (fun _ _ _ _ _ _ us hl => match us, hl with | [_, _], _ => rfl)
  have F_all_lead_back := funD_mk (st := s_all_lead_back) l_all_lead_back i_all_lead_back k_all_lead_back
  have b_all_lead_back := F_all_lead_back.binds (ps := ["some"]) (fun _ _ _ _ _ _ us hl => match us, hl with | [_], _ => rfl)
  have F_none_cross := funD_mk (st := s_none_cross) l_none_cross i_none_cross k_none_cross
  have b_none_cross := F_none_cross.binds (ps := ["some"]) (fun _ _ _ _ _ _ us hl => match us, hl with | [_], _ => rfl)
  have F_is_arcs := funD_mk (st := s_is_arcs) l_is_arcs i_is_arcs k_is_arcs
  have b_is_arcs := F_is_arcs.binds (ps := ["some"]) (fun _ _ _ _ _ _ us hl => match us, hl with | [_], _ => rfl)
  have F_refuse_no_arcs := funD_mk (st := s_refuse_no_arcs) l_refuse_no_arcs i_refuse_no_arcs k_refuse_no_arcs
  have b_refuse_no_arcs := binds_d1 (K := K) (fd := PySem.W.fnOf "refuse_no_arcs" "refuse_no_arcs" (defArgs s_refuse_no_arcs) (defBody s_refuse_no_arcs) (defScope s_refuse_no_arcs) (.ref T_refuse_no_arcs) kV_refuse_no_arcs dc_refuse_no_arcs pm_refuse_no_arcs an_refuse_no_arcs cd_refuse_no_arcs ct_refuse_no_arcs) (x := "some") (y := "called") rfl t_refuse_no_arcs d_refuse_no_arcs (fun u => ⟨_, rfl, rfl⟩)
  have bb_refuse_no_arcs := binds_d2 (K := K) (fd := PySem.W.fnOf "refuse_no_arcs" "refuse_no_arcs" (defArgs s_refuse_no_arcs) (defBody s_refuse_no_arcs) (defScope s_refuse_no_arcs) (.ref T_refuse_no_arcs) kV_refuse_no_arcs dc_refuse_no_arcs pm_refuse_no_arcs an_refuse_no_arcs cd_refuse_no_arcs ct_refuse_no_arcs) (x := "some") (y := "called") rfl t_refuse_no_arcs d_refuse_no_arcs (fun u v => ⟨_, rfl, rfl⟩)
  have F_refuse_no_rows := funD_mk (st := s_refuse_no_rows) l_refuse_no_rows i_refuse_no_rows k_refuse_no_rows
  have b_refuse_no_rows := F_refuse_no_rows.binds (ps := ["one", "other"]) (fun _ _ _ _ _ _ us hl => match us, hl with | [_, _], _ => rfl)
  have F_refuse_unlike := funD_mk (st := s_refuse_unlike) l_refuse_unlike i_refuse_unlike k_refuse_unlike
  have b_refuse_unlike := F_refuse_unlike.binds (ps := ["one", "other"]) (fun _ _ _ _ _ _ us hl => match us, hl with | [_, _], _ => rfl)
  have F_in_one_row := funD_mk (st := s_in_one_row) l_in_one_row i_in_one_row k_in_one_row
  have b_in_one_row := F_in_one_row.binds (ps := ["one", "other"]) (fun _ _ _ _ _ _ us hl => match us, hl with | [_, _], _ => rfl)
  have F_is_end := funD_mk (st := s_is_end) l_is_end i_is_end k_is_end
  have b_is_end := F_is_end.binds (ps := ["both", "bridge"]) (fun _ _ _ _ _ _ us hl => match us, hl with | [_, _], _ => rfl)
  have F_way_from := funD_mk (st := s_way_from) l_way_from i_way_from k_way_from
  have b_way_from := F_way_from.binds (ps := ["both", "first"]) (fun _ _ _ _ _ _ us hl => match us, hl with | [_, _], _ => rfl)
  have F_many_rings := funD_mk (st := s_many_rings) l_many_rings i_many_rings k_many_rings
  have b_many_rings := F_many_rings.binds (ps := ["both", "met"]) (fun _ _ _ _ _ _ us hl => match us, hl with | [_, _], _ => rfl)
  have F_laid := funD_mk (st := s_laid) l_laid i_laid k_laid
  have b_laid := F_laid.binds (ps := ["one", "other"]) (fun _ _ _ _ _ _ us hl => match us, hl with | [_, _], _ => rfl)
  have F_law_cell_at := funD_mk (st := s_law_cell_at) l_law_cell_at i_law_cell_at k_law_cell_at
  have b_law_cell_at := F_law_cell_at.binds (ps := ["script", "k"]) (fun _ _ _ _ _ _ us hl => match us, hl with | [_, _], _ => rfl)
  have F_law_whole := funD_mk (st := s_law_whole) l_law_whole i_law_whole k_law_whole
  have b_law_whole := F_law_whole.binds (ps := ["found"]) (fun _ _ _ _ _ _ us hl => match us, hl with | [_], _ => rfl)
  have F_law_numbers := funD_mk (st := s_law_numbers) l_law_numbers i_law_numbers k_law_numbers
  have b_law_numbers := F_law_numbers.binds (ps := ["found", "due"]) (fun _ _ _ _ _ _ us hl => match us, hl with | [_, _], _ => rfl)
  have F_law_arcs := funD_mk (st := s_law_arcs) l_law_arcs i_law_arcs k_law_arcs
  have b_law_arcs := F_law_arcs.binds (ps := ["script", "at", "size"]) (fun _ _ _ _ _ _ us hl => match us, hl with | [_, _, _], _ => rfl)
  have F_law_good := funD_mk (st := s_law_good) l_law_good i_law_good k_law_good
  have b_law_good := F_law_good.binds (ps := ["some"]) (fun _ _ _ _ _ _ us hl => match us, hl with | [_], _ => rfl)
  have F_law_names := funD_mk (st := s_law_names) l_law_names i_law_names k_law_names
  have b_law_names := F_law_names.binds (ps := ["one", "other"]) (fun _ _ _ _ _ _ us hl => match us, hl with | [_, _], _ => rfl)
  have F_law := funD_mk (st := s_law) l_law i_law k_law
  refine ⟨PySem.W.fnOf "law" "law" (defArgs s_law) (defBody s_law) (defScope s_law) .none kV_law dc_law pm_law an_law cd_law ct_law, fun s v => .of_eq rfl, fun base _ _ => ?_⟩
  have o_is_length := ok_is_length (P := l.prog) (w := w) (mg := mg) (base := base) F_is_length mMOST_ARCS
  have c_is_length : Fn l.prog w K mg base CX0 "is_length" ["bridges"] [] 1 sp_is_length := ⟨f_is_length, _, _, o_is_length, b_is_length, .nil, k_is_length, PySem.W.mg_of X G a_is_length⟩
  have o_leads_back := ok_leads_back (P := l.prog) (w := w) (mg := mg) (base := base) F_leads_back mlen
  have c_leads_back : Fn l.prog w K mg base CX0 "leads_back" ["some", "here"] [] 1 (sp_leads_back K) := ⟨f_leads_back, _, _, o_leads_back, b_leads_back, .nil, k_leads_back, PySem.W.mg_of X G a_leads_back⟩
  have o_all_lead_back := ok_all_lead_back (P := l.prog) (w := w) (mg := mg) (base := base) F_all_lead_back c_leads_back mlen mrange
  have c_all_lead_back : Fn l.prog w K mg base CX0 "all_lead_back" ["some"] [] 2 (sp_all_lead_back K) := ⟨f_all_lead_back, _, _, o_all_lead_back, b_all_lead_back, .nil, k_all_lead_back, PySem.W.mg_of X G a_all_lead_back⟩
  have o_none_cross := ok_none_cross (P := l.prog) (w := w) (mg := mg) (base := base) F_none_cross menumerate
  have c_none_cross : Fn l.prog w K mg base CX0 "none_cross" ["some"] [] 1 (sp_none_cross K) := ⟨f_none_cross, _, _, o_none_cross, b_none_cross, .nil, k_none_cross, PySem.W.mg_of X G a_none_cross⟩
  have o_is_arcs := ok_is_arcs (P := l.prog) (w := w) (mg := mg) (base := base) F_is_arcs c_is_length c_all_lead_back c_none_cross mlen
  have c_is_arcs : Fn l.prog w K mg base CX0 "is_arcs" ["some"] [] 3 (sp_is_arcs K) := ⟨f_is_arcs, _, _, o_is_arcs, b_is_arcs, .nil, k_is_arcs, PySem.W.mg_of X G a_is_arcs⟩
  have o_refuse_no_arcs := ok_refuse_no_arcs (P := l.prog) (w := w) (mg := mg) (base := base) F_refuse_no_arcs c_is_arcs
  have c_refuse_no_arcs : Fn l.prog w K mg base CX0 "refuse_no_arcs" ["some", "called"] [.str "the list"] 4 (sp_refuse_no_arcs K) := ⟨f_refuse_no_arcs, _, _, o_refuse_no_arcs, b_refuse_no_arcs, .cons ⟨_, rfl⟩ .nil, k_refuse_no_arcs, PySem.W.mg_of X G a_refuse_no_arcs⟩
  have cc_refuse_no_arcs : Fn l.prog w K mg base CX0 "refuse_no_arcs" ["some", "called"] [] 4 (sp_refuse_no_arcs K) := ⟨f_refuse_no_arcs, _, _, o_refuse_no_arcs, bb_refuse_no_arcs, .nil, k_refuse_no_arcs, PySem.W.mg_of X G a_refuse_no_arcs⟩
  have o_refuse_no_rows := ok_refuse_no_rows (P := l.prog) (w := w) (mg := mg) (base := base) F_refuse_no_rows cc_refuse_no_arcs
  have c_refuse_no_rows : Fn l.prog w K mg base CX0 "refuse_no_rows" ["one", "other"] [] 5 (sp_refuse_no_rows K) := ⟨f_refuse_no_rows, _, _, o_refuse_no_rows, b_refuse_no_rows, .nil, k_refuse_no_rows, PySem.W.mg_of X G a_refuse_no_rows⟩
  have o_refuse_unlike := ok_refuse_unlike (P := l.prog) (w := w) (mg := mg) (base := base) F_refuse_unlike c_refuse_no_rows mlen
  have c_refuse_unlike : Fn l.prog w K mg base CX0 "refuse_unlike" ["one", "other"] [] 6 (sp_refuse_unlike K) := ⟨f_refuse_unlike, _, _, o_refuse_unlike, b_refuse_unlike, .nil, k_refuse_unlike, PySem.W.mg_of X G a_refuse_unlike⟩
  have o_in_one_row := ok_in_one_row (P := l.prog) (w := w) (mg := mg) (base := base) F_in_one_row mlen
  have c_in_one_row : Fn l.prog w K mg base CX0 "in_one_row" ["one", "other"] [] 1 (sp_in_one_row K) := ⟨f_in_one_row, _, _, o_in_one_row, b_in_one_row, .nil, k_in_one_row, PySem.W.mg_of X G a_in_one_row⟩
  have o_is_end := ok_is_end (P := l.prog) (w := w) (mg := mg) (base := base) F_is_end mlen
  have c_is_end : Fn l.prog w K mg base CX0 "is_end" ["both", "bridge"] [] 1 (sp_is_end K) := ⟨f_is_end, _, _, o_is_end, b_is_end, .nil, k_is_end, PySem.W.mg_of X G a_is_end⟩
  have o_way_from := ok_way_from (P := l.prog) (w := w) (mg := mg) (base := base) F_way_from c_is_end mlen
  have c_way_from : Fn l.prog w K mg base CX0 "way_from" ["both", "first"] [] 2 (sp_way_from K) := ⟨f_way_from, _, _, o_way_from, b_way_from, .nil, k_way_from, PySem.W.mg_of X G a_way_from⟩
  have o_many_rings := ok_many_rings (P := l.prog) (w := w) (mg := mg) (base := base) F_many_rings c_way_from mlen mlist mrange
  have c_many_rings : Fn l.prog w K mg base CX0 "many_rings" ["both", "met"] [] 3 (sp_many_rings K) := ⟨f_many_rings, _, _, o_many_rings, b_many_rings, .nil, k_many_rings, PySem.W.mg_of X G a_many_rings⟩
  have o_laid := ok_laid (P := l.prog) (w := w) (mg := mg) (base := base) F_laid c_refuse_unlike c_in_one_row c_is_end c_way_from c_many_rings mlen mrange
  have c_laid : Fn l.prog w K mg base CX0 "laid" ["one", "other"] [] 7 (sp_laid K) := ⟨f_laid, _, _, o_laid, b_laid, .nil, k_laid, PySem.W.mg_of X G a_laid⟩
  have o_law_cell_at := ok_law_cell_at (P := l.prog) (w := w) (mg := mg) (base := base) F_law_cell_at mlen
  have c_law_cell_at : Fn l.prog w K mg base CX0 "_law_cell_at" ["script", "k"] [] 1 (sp_law_cell_at K) := ⟨f_law_cell_at, _, _, o_law_cell_at, b_law_cell_at, .nil, k_law_cell_at, PySem.W.mg_of X G a_law_cell_at⟩
  have o_law_whole := ok_law_whole (P := l.prog) (w := w) (mg := mg) (base := base) F_law_whole kib misinstance mint mbool
  have c_law_whole : Fn l.prog w K mg base CX0 "_law_whole" ["found"] [] 1 sp_law_whole := ⟨f_law_whole, _, _, o_law_whole, b_law_whole, .nil, k_law_whole, PySem.W.mg_of X G a_law_whole⟩
  have o_law_numbers := ok_law_numbers (P := l.prog) (w := w) (mg := mg) (base := base) F_law_numbers c_law_whole mlen misinstance mlist
  have c_law_numbers : Fn l.prog w K mg base CX0 "_law_numbers" ["found", "due"] [] 2 (sp_law_numbers K) := ⟨f_law_numbers, _, _, o_law_numbers, b_law_numbers, .nil, k_law_numbers, PySem.W.mg_of X G a_law_numbers⟩
  have o_law_arcs := ok_law_arcs (P := l.prog) (w := w) (mg := mg) (base := base) F_law_arcs c_law_cell_at mlen mrange
  have c_law_arcs : Fn l.prog w K mg base CX0 "_law_arcs" ["script", "at", "size"] [] 2 (sp_law_arcs K) := ⟨f_law_arcs, _, _, o_law_arcs, b_law_arcs, .nil, k_law_arcs, PySem.W.mg_of X G a_law_arcs⟩
  have o_law_good := ok_law_good (P := l.prog) (w := w) (mg := mg) (base := base) F_law_good mlen mrange
  have c_law_good : Fn l.prog w K mg base CX0 "_law_good" ["some"] [] 1 (sp_law_good K) := ⟨f_law_good, _, _, o_law_good, b_law_good, .nil, k_law_good, PySem.W.mg_of X G a_law_good⟩
  have o_law_names := ok_law_names (P := l.prog) (w := w) (mg := mg) (base := base) F_law_names mlen mrange mmin
  have c_law_names : Fn l.prog w K mg base CX0 "_law_names" ["one", "other"] [] 1 (sp_law_names K) := ⟨f_law_names, _, _, o_law_names, b_law_names, .nil, k_law_names, PySem.W.mg_of X G a_law_names⟩
  exact ok_law F_law c_law_cell_at c_law_arcs c_law_names c_laid c_law_numbers c_law_good c_law_whole mlen mrange mlist misinstance mtuple mset
theorem walk {l : PySem.W.OpenLaw} {q : Program} {loose : List Str} {XP : (Str → Option Value) → Heap → Prop} {YP : World → Heap → Prop} {d : DefRec} {K : Params → PySem.W.Frag} (hn : l.most = some 63) (hdf : d.params.defaults = [])
    (hY : ∀ (w : World) (h : Heap), YP w h → (K w.params).In h)
    (F : ∀ (w : World) (mg : Str → Option Value) (fa : Addr) (h : Heap), (K w.params).In h → h.Ns mainGlobals mg → mg d.name = some (.ref fa) →
      ∃ fd : FuncData, (∀ (s : Shared) (u : Value), BindsTo s fd ⟨[u], []⟩ [("script", u)]) ∧ ∀ base : Heap, (K w.params).In base → base.Ns mainGlobals mg → FnOk l.prog w (K w.params) mg base CX0 8 fa fd ["script"] (sp_law (K w.params))) :
    PySem.W.WalkO q loose XP YP l.row.toRowW d [] (fun f vs => PySem.call f vs) :=
  L2.walk_of (n := 63) (k := 8) (x := "script") (CX := fun _ => CX0) (sp := fun w => sp_law (K w.params)) hn (by decide) hdf ⟨rfl, by decide, by decide⟩ hY F (fun _ _ a ns hl _ hS => ⟨a, ns, rfl, hS, hl, fun _ => rfl⟩) fun _ _ _ _ _ z => z
end Rl
open PySem PySem.W PyProof.Rows
set_option maxRecDepth 100000 in
set_option maxHeartbeats 0 in
theorem PySem.Challenge.cw_riverloops_k10_laid_beneath_holds : PySem.Challenge.rw_riverloops_k10_laid_beneath.Holds := by
  w_on; o_law; k_head; (case hw => w_witness2)
  k_fill
  refine Rl.walk (l := PySem.Challenge.rw_riverloops_k10_laid_beneath) rfl rfl (fun w h Y => PySem.W.kIn_of Y) ?F
  case F =>
    intro w mg fa h KX G hmg
    refine' Rl.all_mk KX G hmg ?a_is_length ?l_is_length ?i_is_length ?k_is_length ?a_leads_back ?l_leads_back ?i_leads_back ?k_leads_back ?a_all_lead_back ?l_all_lead_back ?i_all_lead_back ?k_all_lead_back ?a_none_cross ?l_none_cross ?i_none_cross ?k_none_cross ?a_is_arcs ?l_is_arcs ?i_is_arcs ?k_is_arcs ?a_refuse_no_arcs ?l_refuse_no_arcs ?i_refuse_no_arcs ?k_refuse_no_arcs ?t_refuse_no_arcs ?d_refuse_no_arcs ?a_refuse_no_rows ?l_refuse_no_rows ?i_refuse_no_rows ?k_refuse_no_rows ?a_refuse_unlike ?l_refuse_unlike ?i_refuse_unlike ?k_refuse_unlike ?a_in_one_row ?l_in_one_row ?i_in_one_row ?k_in_one_row ?a_is_end ?l_is_end ?i_is_end ?k_is_end ?a_way_from ?l_way_from ?i_way_from ?k_way_from ?a_many_rings ?l_many_rings ?i_many_rings ?k_many_rings ?a_laid ?l_laid ?i_laid ?k_laid ?a_law_cell_at ?l_law_cell_at ?i_law_cell_at ?k_law_cell_at ?a_law_whole ?l_law_whole ?i_law_whole ?k_law_whole ?a_law_numbers ?l_law_numbers ?i_law_numbers ?k_law_numbers ?a_law_arcs ?l_law_arcs ?i_law_arcs ?k_law_arcs ?a_law_good ?l_law_good ?i_law_good ?k_law_good ?a_law_names ?l_law_names ?i_law_names ?k_law_names ?a_law ?l_law ?i_law ?k_law ?z_bool ?z_enumerate ?z_int ?z_isinstance ?z_len ?z_list ?z_min ?z_range ?z_set ?z_tuple ?y_MOST_ARCS ?kib
    (case a_is_length => first | k_is | rfl)
    (case l_is_length => first | k_is | rfl)
    (case i_is_length => first | k_is | rfl)
    (case k_is_length => first | k_is | rfl)
    (case a_leads_back => first | k_is | rfl)
    (case l_leads_back => first | k_is | rfl)
    (case i_leads_back => first | k_is | rfl)
    (case k_leads_back => first | k_is | rfl)
    (case a_all_lead_back => first | k_is | rfl)
    (case l_all_lead_back => first | k_is | rfl)
    (case i_all_lead_back => first | k_is | rfl)
    (case k_all_lead_back => first | k_is | rfl)
    (case a_none_cross => first | k_is | rfl)
    (case l_none_cross => first | k_is | rfl)
    (case i_none_cross => first | k_is | rfl)
    (case k_none_cross => first | k_is | rfl)
    (case a_is_arcs => first | k_is | rfl)
    (case l_is_arcs => first | k_is | rfl)
    (case i_is_arcs => first | k_is | rfl)
    (case k_is_arcs => first | k_is | rfl)
    (case a_refuse_no_arcs => first | k_is | rfl)
    (case l_refuse_no_arcs => first | k_is | rfl)
    (case i_refuse_no_arcs => first | k_is | rfl)
    (case k_refuse_no_arcs => first | k_is | rfl)
    (case t_refuse_no_arcs => first | k_is | rfl)
    (case d_refuse_no_arcs => first | k_is | rfl)
    (case a_refuse_no_rows => first | k_is | rfl)
    (case l_refuse_no_rows => first | k_is | rfl)
    (case i_refuse_no_rows => first | k_is | rfl)
    (case k_refuse_no_rows => first | k_is | rfl)
    (case a_refuse_unlike => first | k_is | rfl)
    (case l_refuse_unlike => first | k_is | rfl)
    (case i_refuse_unlike => first | k_is | rfl)
    (case k_refuse_unlike => first | k_is | rfl)
    (case a_in_one_row => first | k_is | rfl)
    (case l_in_one_row => first | k_is | rfl)
    (case i_in_one_row => first | k_is | rfl)
    (case k_in_one_row => first | k_is | rfl)
    (case a_is_end => first | k_is | rfl)
    (case l_is_end => first | k_is | rfl)
    (case i_is_end => first | k_is | rfl)
    (case k_is_end => first | k_is | rfl)
    (case a_way_from => first | k_is | rfl)
    (case l_way_from => first | k_is | rfl)
    (case i_way_from => first | k_is | rfl)
    (case k_way_from => first | k_is | rfl)
    (case a_many_rings => first | k_is | rfl)
    (case l_many_rings => first | k_is | rfl)
    (case i_many_rings => first | k_is | rfl)
    (case k_many_rings => first | k_is | rfl)
    (case a_laid => first | k_is | rfl)
    (case l_laid => first | k_is | rfl)
    (case i_laid => first | k_is | rfl)
    (case k_laid => first | k_is | rfl)
    (case a_law_cell_at => first | k_is | rfl)
    (case l_law_cell_at => first | k_is | rfl)
    (case i_law_cell_at => first | k_is | rfl)
    (case k_law_cell_at => first | k_is | rfl)
    (case a_law_whole => first | k_is | rfl)
    (case l_law_whole => first | k_is | rfl)
    (case i_law_whole => first | k_is | rfl)
    (case k_law_whole => first | k_is | rfl)
    (case a_law_numbers => first | k_is | rfl)
    (case l_law_numbers => first | k_is | rfl)
    (case i_law_numbers => first | k_is | rfl)
    (case k_law_numbers => first | k_is | rfl)
    (case a_law_arcs => first | k_is | rfl)
    (case l_law_arcs => first | k_is | rfl)
    (case i_law_arcs => first | k_is | rfl)
    (case k_law_arcs => first | k_is | rfl)
    (case a_law_good => first | k_is | rfl)
    (case l_law_good => first | k_is | rfl)
    (case i_law_good => first | k_is | rfl)
    (case k_law_good => first | k_is | rfl)
    (case a_law_names => first | k_is | rfl)
    (case l_law_names => first | k_is | rfl)
    (case i_law_names => first | k_is | rfl)
    (case k_law_names => first | k_is | rfl)
    (case a_law => first | k_is | rfl)
    (case l_law => first | k_is | rfl)
    (case i_law => first | k_is | rfl)
    (case k_law => first | k_is | rfl)
    (case z_bool => first | k_is | rfl)
    (case z_enumerate => first | k_is | rfl)
    (case z_int => first | k_is | rfl)
    (case z_isinstance => first | k_is | rfl)
    (case z_len => first | k_is | rfl)
    (case z_list => first | k_is | rfl)
    (case z_min => first | k_is | rfl)
    (case z_range => first | k_is | rfl)
    (case z_set => first | k_is | rfl)
    (case z_tuple => first | k_is | rfl)
    (case y_MOST_ARCS => first | k_is | rfl)
    (case kib => first | k_is | rfl)
