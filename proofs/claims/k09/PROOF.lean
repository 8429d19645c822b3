import PyProof.Rows.All
import Wide.All
import OpenK.AllK
import Wide.FinOn
import Lean
import PyProof.EqAt
import PyProof.EqKinds
import PyProof.TupleCall
import PyProof.NeKinds
import KE.KFind
import PyProof.ListRange
import PySem.Challenge.RW_riverloops_k09_how_many_rows
set_option Elab.async false
set_option linter.all false
set_option maxRecDepth 100000
/-! THE HAND LAYER, for ints, bools, texts, own classes, LISTS and tuples (index, slices, in, append, pop ..), calls, loops. Paste it whole ahead of your own text; what your proof does not reach may be deleted. -/
namespace L2
open PySem PySem.Spec PyProof.Rows

/-- a key: an int or a str -/
abbrev Key := Sum Int Str
def keyIs : Key → Value → Bool
  | .inl k, v => Value.isInt k v
  | .inr x, v => Value.isStrOf x v
def keyH (w : World) : Key → Int
  | .inl k => hashInt k
  | .inr x => hashStr w x
theorem keyIs_shape : ∀ {k : Key} {v : Value}, keyIs k v = true → (∃ i t, k = Sum.inl i ∧ v = Value.int i t) ∨ (∃ x t, k = Sum.inr x ∧ v = Value.str x t)
  | .inl i, v, h => by
    obtain ⟨t, e⟩ := Value.isInt_shape (k := i) (v := v) h
    exact .inl ⟨i, t, rfl, e⟩
  | .inr x, v, h => by
    obtain ⟨t, e⟩ := Value.isStrOf_shape (x := x) (v := v) h
    exact .inr ⟨x, t, rfl, e⟩
theorem key_ll (a b : Int) : decide ((Sum.inl a : Key) = Sum.inl b) = (a == b) := by
  by_cases e : a = b
  · subst e; simp
  · have h : ¬ (Sum.inl a : Key) = Sum.inl b := fun q => e (Sum.inl.inj q)
    rw [decide_eq_false h]
    exact (beq_eq_false_iff_ne.mpr e).symm
theorem key_rr (a b : Str) : decide ((Sum.inr a : Key) = Sum.inr b) = decide (a = b) := by
  by_cases e : a = b
  · subst e; simp
  · have h : ¬ (Sum.inr a : Key) = Sum.inr b := fun q => e (Sum.inr.inj q)
    rw [decide_eq_false h, decide_eq_false e]
theorem key_lr (a : Int) (b : Str) : decide ((Sum.inl a : Key) = Sum.inr b) = false := decide_eq_false (fun q => nomatch q)
theorem key_rl (a : Str) (b : Int) : decide ((Sum.inr a : Key) = Sum.inl b) = false := decide_eq_false (fun q => nomatch q)

def mixKind (prog : Program) (w : World) : PySem.KeyKind prog w Key where
  is := keyIs
  hash := keyH w
  inj := fun v a b ha hb => by
    rcases keyIs_shape ha with ⟨i, t, rfl, rfl⟩ | ⟨x, t, rfl, rfl⟩
    · rcases keyIs_shape hb with ⟨j, u, rfl, e⟩ | ⟨y, u, rfl, e⟩
      · injection e with e1 _; rw [e1]
      · exact nomatch e
    · rcases keyIs_shape hb with ⟨j, u, rfl, e⟩ | ⟨y, u, rfl, e⟩
      · exact nomatch e
      · injection e with e1 _; rw [e1]
  byValue := fun k v h => by
    rcases keyIs_shape h with ⟨i, t, rfl, rfl⟩ | ⟨x, t, rfl, rfl⟩ <;> rfl
  pyHash := fun hv h => by
    rcases keyIs_shape hv with ⟨i, t, rfl, rfl⟩ | ⟨x, t, rfl, rfl⟩
    · exact wpAny_pyHash_int h
    · exact wpAny_pyHash_str h
  eqBool := fun hu hv h => by
    rcases keyIs_shape hu with ⟨i, t, rfl, rfl⟩ | ⟨x, t, rfl, rfl⟩
    · rcases keyIs_shape hv with ⟨j, u, rfl, rfl⟩ | ⟨y, u, rfl, rfl⟩
      · rw [key_ll] at h; exact wpAny_eqBool_int h
      · rw [key_lr] at h; exact SeqAt.EqAt.int_str i t y u _ _ _ _ h
    · rcases keyIs_shape hv with ⟨j, u, rfl, rfl⟩ | ⟨y, u, rfl, rfl⟩
      · rw [key_rl] at h; exact SeqAt.EqAt.str_int x t j u _ _ _ _ h
      · rw [key_rr] at h; exact wpAny_eqBool_str h
  «strs» := fun k x t v h => by
    rcases keyIs_shape h with ⟨i, u, rfl, e⟩ | ⟨y, u, rfl, e⟩
    · exact nomatch e
    · injection e with e1 _
      subst e1
      cases v <;> rfl

end L2

namespace L2
open PySem PySem.Spec PyProof.Rows

/-- a value, without the heap -/
inductive V where
  | non | bl (b : Bool) | int (i : Int) | str (x : Str) | byt (b : Array UInt8) | flt (b : UInt64) | ref (a : Addr) | ty (n : String)
  deriving DecidableEq

def RelV : V → Value → Prop
  | .non, u => u = Value.none
  | .bl b, u => u = Value.bool b
  | .int i, u => ∃ t, u = Value.int i t
  | .str x, u => ∃ t, u = Value.str x t
  | .byt b, u => ∃ t, u = Value.bytes b t
  | .flt b, u => ∃ t, u = Value.float b t
  | .ref a, u => u = Value.ref a
  | .ty n, u => u = Value.type n

abbrev Vals : List V → List Value → Prop := Paired RelV
theorem Vals.length {xs : List V} {us : List Value} (r : Vals xs us) : xs.length = us.length := Paired.length r
theorem Vals.get : ∀ {xs : List V} {us : List Value} {i : Nat} {x : V}, Vals xs us → xs[i]? = some x → ∃ u, us[i]? = some u ∧ RelV x u
  | _, _, _, _, .nil, e => by simp at e
  | _, _, 0, _, .cons r _, e => by simp at e; subst e; exact ⟨_, rfl, r⟩
  | _, _, i + 1, x, .cons _ t, e => by
    obtain ⟨u, h1, h2⟩ := Vals.get (i := i) (x := x) t (by simpa using e)
    exact ⟨u, by simpa using h1, h2⟩
theorem Vals.set {x : V} {u : Value} (r : RelV x u) : ∀ {xs : List V} {us : List Value} (i : Nat), Vals xs us → Vals (xs.set i x) (us.set i u)
  | _, _, _, .nil => .nil
  | _, _, 0, .cons _ t => .cons r t
  | _, _, i + 1, .cons q t => .cons q (Vals.set r i t)
theorem Vals.append : ∀ {xs ys : List V} {us ws : List Value}, Vals xs us → Vals ys ws → Vals (xs ++ ys) (us ++ ws)
  | _, _, _, _, .nil, s => s
  | _, _, _, _, .cons r t, s => .cons r (Vals.append t s)

def RelO : Option V → Option Value → Prop
  | some v, some u => RelV v u
  | none, none => True
  | _, _ => False
def KV {κ : Type} : List (κ × V) → List (κ × Value) → Prop := Paired fun (p : κ × V) (q : κ × Value) => p.1 = q.1 ∧ RelV p.2 q.2

/-- a key of a dict (00_mix): an int or a text -/
def kV : Key → V
  | .inl i => .int i
  | .inr x => .str x

/-- what stands at a tracked address -/
inductive HO where
  /-- a list -/
  | lst (xs : List V)
  /-- a tuple (never changes) -/
  | tup (xs : List V)
  /-- a dict whose keys are ints and texts; one whose keys are tuples of ints and texts (the empty one is both) -/
  | dK (kvs : List (Key × V)) | dT (kvs : List (List Key × V))
  /-- a set of ints: its members, its size -/
  | set (S : Int → Bool) (n : Nat)
  /-- an instance of the class at C, its dict at dx, its attributes -/
  | ins (C dx : Addr) (fs : List (Str × V))
  /-- the dict of the instance at x -/
  | own (x : Addr)
  /-- the dict of an exception -/
  | xd (fs : List (Str × V))
  /-- a bound method, f of x -/
  | met (f x : Addr)
  /-- a range object lo, lo + 1, .. below hi -/
  | rng (lo hi : Int)
  /-- a thing that is known to the object (the script; a dict while a loop walks it): read, never written while it is so -/
  | frz (o : Obj) (u : HO)
  /-- a code object's table -/
  | tbl (ps : Array Value)
  /-- any other thing, by what is true of its one object (a def of one's own: SetO a S n := HO.ext fun h => ..) -/
  | ext (φ : Heap → Prop)

abbrev Hp := Addr → Option HO
def upd (H : Hp) (a : Addr) (o : HO) : Hp := fun b => if b = a then some o else H b
theorem upd_same {H : Hp} {a : Addr} {o : HO} : upd H a o a = some o := by unfold upd; rw [if_pos rfl]
theorem upd_ne {H : Hp} {a b : Addr} {o : HO} (h : b ≠ a) : upd H a o b = H b := by unfold upd; rw [if_neg h]
theorem ne_of_none {H : Hp} {a b : Addr} {o : HO} (h : H a = some o) (h' : H b = none) : a ≠ b := by
  intro e; subst e; rw [h] at h'; cases h'

section
variable (P : Program) (w : World)
def ObjOk (H : Hp) (h : Heap) (a : Addr) : HO → Prop
  | .lst xs => xs.length ≤ sizeLine ∧ ∃ (its : List Value) (n : Nat), Vals xs its ∧ h.get? a = some { cls := .type "list", data := .seq its.toArray n }
  | .tup xs => xs.length ≤ sizeLine ∧ ∃ its : List Value, Vals xs its ∧ IsTup h a its.toArray
  | .dK kvs => kvs.length ≤ sizeLine ∧ (a == sysModules) = false ∧ ∃ vs, KV kvs vs ∧ h.DictOf (mixKind P w) a vs
  | .dT kvs => kvs.length ≤ sizeLine ∧ (a == sysModules) = false ∧ ∃ xs : List (List Key × Addr × Value),
      Paired (fun (p : List Key × V) (q : List Key × Addr × Value) => p.1 = q.1 ∧ H q.2.1 = some (.tup (p.1.map kV)) ∧ RelV p.2 q.2.2) kvs xs ∧
      ∃ o es ep, h.get? a = some o ∧ o.ExactDict ∧ o.data = .dict es ep ∧ es.toList = xs.map (entryOfKey (tupleKind (mixKind P w))) ∧ (xs.map (·.1)).Nodup
  | .set S n => h.SetOf (intKind P w) a S n
  | .ins C dx fs => H dx = some (.own a) ∧ fs.length ≤ 1000 ∧ dx ≠ a ∧ h.get? a = some (PySem.W.instObj C dx) ∧
      ∃ mA, h.Ns1 dx mA ∧ (∀ f, RelO (fs.lookup f) (mA f)) ∧ PySem.Within mA (fs.map (·.1))
  | .own _ => ∃ o, h.get? a = some o
  | .xd fs => ∃ mA, h.Ns1 a mA ∧ ∀ f, RelO (fs.lookup f) (mA f)
  | .rng lo hi => ∃ t u v, h.get? a = some { cls := .type "range", data := .fields #[.int lo t, .int hi u, .int 1 v] }
  | .frz o u => h.get? a = some o ∧ ObjOk H h a u
  | .tbl ps => h.get? a = some { cls := .none, data := .fields ps }
  | .met f x => h.get? a = some (PySem.W.methodObj (.ref f) (.ref x))
  | .ext φ => φ h ∧ (∃ o, h.get? a = some o) ∧ ∀ h1 h2 : Heap, φ h1 → (∀ o, h1.get? a = some o → h2.get? a = some o) → φ h2
/-- the abstract heap is held -/
def HOk (H : Hp) (h : Heap) : Prop := ∀ a o, H a = some o → ObjOk P w H h a o
end

section
variable {P : Program} {w : World} {H H' : Hp} {h h' : Heap} {a : Addr} {o : HO}
theorem ObjOk.lt (x : ObjOk P w H h a o) : a < h.objs.size := by
  cases o with
  | lst xs => obtain ⟨_, _, _, _, e⟩ := x; exact Heap.lt_size e
  | tup xs => obtain ⟨_, _, _, p⟩ := x; exact p.lt
  | dK kvs => obtain ⟨_, _, _, _, o, _, _, e, _⟩ := x; exact Heap.lt_size e
  | dT kvs => obtain ⟨_, _, _, _, o, _, _, e, _⟩ := x; exact Heap.lt_size e
  | set S n => obtain ⟨o, _, _, _, e, _⟩ := x; exact Heap.lt_size e
  | ins C dx fs => obtain ⟨_, _, _, e, _⟩ := x; exact Heap.lt_size e
  | own y => obtain ⟨_, e⟩ := x; exact Heap.lt_size e
  | xd fs => obtain ⟨_, ⟨_, _, _, e, _⟩, _⟩ := x; exact Heap.lt_size e
  | rng lo hi => obtain ⟨_, _, _, e⟩ := x; exact Heap.lt_size e
  | frz ob u => obtain ⟨e, _⟩ := x; exact Heap.lt_size e
  | tbl ps => exact Heap.lt_size (show h.get? a = some _ from x)
  | met f y => exact Heap.lt_size (show h.get? a = some _ from x)
  | ext φ => obtain ⟨_, ⟨_, e⟩, _⟩ := x; exact Heap.lt_size e
theorem Paired.mapP {α β : Type} {F G : α → β → Prop} : ∀ {l₁ : List α} {l₂ : List β}, Paired F l₁ l₂ → (∀ a b, F a b → G a b) → Paired G l₁ l₂
  | _, _, .nil, _ => .nil
  | _, _, .cons r t, f => .cons (f _ _ r) (Paired.mapP t f)
/-- what an object's description leans on: its own object, its own dict, the tuples -/
theorem ObjOk.stay (x : ObjOk P w H h a o) (k : ∀ b u, (b = a ∨ H b = some (.own a)) → h.get? b = some u → h'.get? b = some u)
    (ho : ∀ b, H b = some (.own a) → H' b = some (.own a)) (ht : ∀ b xs, H b = some (.tup xs) → H' b = some (.tup xs)) : ObjOk P w H' h' a o := by
  induction o with
  | lst xs => obtain ⟨z, its, n, r, e⟩ := x; exact ⟨z, its, n, r, k _ _ (.inl rfl) e⟩
  | tup xs => obtain ⟨z, its, r, ob, e, c⟩ := x; exact ⟨z, its, r, ob, k _ _ (.inl rfl) e, c⟩
  | dK kvs => obtain ⟨z, y, vs, r, ob, es, ep, e, c⟩ := x; exact ⟨z, y, vs, r, ob, es, ep, k _ _ (.inl rfl) e, c⟩
  | dT kvs =>
    obtain ⟨z, y, xs, r, ob, es, ep, e, c⟩ := x
    exact ⟨z, y, xs, Paired.mapP r fun p q z => ⟨z.1, ht _ _ z.2.1, z.2.2⟩, ob, es, ep, k _ _ (.inl rfl) e, c⟩
  | set S n => obtain ⟨ob, es, ep, t, e, c⟩ := x; exact ⟨ob, es, ep, t, k _ _ (.inl rfl) e, c⟩
  | ins C dx fs =>
    obtain ⟨d, z, ne, e, mA, ⟨od, es, ep, e2, c⟩, r⟩ := x
    exact ⟨ho _ d, z, ne, k _ _ (.inl rfl) e, mA, ⟨od, es, ep, k _ _ (.inr d) e2, c⟩, r⟩
  | own y => obtain ⟨ob, e⟩ := x; exact ⟨ob, k _ _ (.inl rfl) e⟩
  | xd fs => obtain ⟨mA, ⟨od, es, ep, e, c⟩, r⟩ := x; exact ⟨mA, ⟨od, es, ep, k _ _ (.inl rfl) e, c⟩, r⟩
  | rng lo hi => obtain ⟨t, u, v, e⟩ := x; exact ⟨t, u, v, k _ _ (.inl rfl) e⟩
  | frz ob u ih => obtain ⟨e, q⟩ := x; exact ⟨k _ _ (.inl rfl) e, ih q⟩
  | tbl ps =>
    have e : h.get? a = some { cls := .none, data := .fields ps } := x
    show h'.get? a = some { cls := .none, data := .fields ps }
    exact k a _ (.inl rfl) e
  | met f y =>
    have e : h.get? a = some (PySem.W.methodObj (.ref f) (.ref y)) := x
    show h'.get? a = some (PySem.W.methodObj (.ref f) (.ref y))
    exact k a _ (.inl rfl) e
  | ext φ => obtain ⟨p, ⟨o, e⟩, st⟩ := x; exact ⟨st _ _ p fun o q => k _ _ (.inl rfl) q, ⟨o, k _ _ (.inl rfl) e⟩, st⟩
theorem HOk.lt (x : HOk P w H h) (e : H a = some o) : a < h.objs.size := (x a o e).lt
theorem HOk.fresh (x : HOk P w H h) (e : h.objs.size ≤ a) : H a = none := by
  cases q : H a with
  | none => rfl
  | some u => exact absurd (Nat.lt_of_lt_of_le (x.lt q) e) (Nat.lt_irrefl _)
/-- every object of the heap is kept -/
theorem HOk.kept (x : HOk P w H h) (k : ∀ b u, h.get? b = some u → h'.get? b = some u) : HOk P w H h' := fun a o e =>
  (x a o e).stay (fun b u _ q => k b u q) (fun _ q => q) fun _ _ q => q
/-- a new object is laid and tracked -/
theorem HOk.laid (x : HOk P w H h) (k : ∀ b u, h.get? b = some u → h'.get? b = some u) (hp : h.objs.size ≤ a) (new : ObjOk P w (upd H a o) h' a o) : HOk P w (upd H a o) h' := fun b u e => by
  have hn := x.fresh hp
  by_cases hb : b = a
  · subst hb; rw [upd_same] at e; cases e; exact new
  · rw [upd_ne hb] at e
    exact (x b u e).stay (fun c v _ q => k c v q) (fun c q => by rw [upd_ne (ne_of_none q hn)]; exact q) fun c xs q => by rw [upd_ne (ne_of_none q hn)]; exact q
end

/-- what may be read as u: it is u, or a known u -/
def Rd (H : Hp) (a : Addr) (u : HO) : Prop := H a = some u ∨ ∃ o, H a = some (.frz o u)
theorem Rd.ok {P : Program} {w : World} {H : Hp} {h : Heap} {a : Addr} {u : HO} (r : Rd H a u) (x : HOk P w H h) : ObjOk P w H h a u := by
  rcases r with r | ⟨o, r⟩
  · exact x a u r
  · obtain ⟨_, q⟩ := x a _ r
    exact q
/-- what may be written -/
def Mut : Option HO → Prop
  | some (.lst _) => True
  | some (.dK _) => True
  | some (.dT _) => True
  | some (.set _ _) => True
  | some (.ins _ _ _) => True
  | some (.ext _) => True
  | _ => False
section
variable {P : Program} {w : World} {H : Hp} {h h' : Heap} {x e : Addr} {o' : HO}
/-- the object at e is changed: x itself, or the dict of the instance x -/
theorem HOk.write (ok : HOk P w H h) (mu : Mut (H x)) (he : e = x ∨ H e = some (.own x)) (k : ∀ b u, b ≠ e → h.get? b = some u → h'.get? b = some u) (heo : ∃ u, h'.get? e = some u)
    (new : ObjOk P w (upd H x o') h' x o') : HOk P w (upd H x o') h' := fun b u q => by
  have nown : ∀ c y, H c = some (.own y) → c ≠ x := fun c y r z => by subst z; rw [r] at mu; exact mu
  have ntup : ∀ c xs, H c = some (.tup xs) → c ≠ x := fun c xs r z => by subst z; rw [r] at mu; exact mu
  by_cases hb : b = x
  · subst hb; rw [upd_same] at q; cases q; exact new
  · rw [upd_ne hb] at q
    by_cases hbe : b = e
    · have q' : H b = some (.own x) := by
        rcases he with z | z
        · exact absurd (hbe.trans z) hb
        · rw [hbe]; exact z
      rw [q] at q'; cases q'
      obtain ⟨v, hv⟩ := heo
      exact ⟨v, by rw [hbe]; exact hv⟩
    · refine (ok b u q).stay (fun c v hc r => k c v ?_ r) (fun c r => by rw [upd_ne (nown c b r)]; exact r) fun c xs r => by rw [upd_ne (ntup c xs r)]; exact r
      rcases hc with rfl | hc
      · exact hbe
      · rintro rfl
        rcases he with z | z
        · exact nown c b hc z
        · rw [hc] at z; cases z; exact hb rfl
end

/-! ### kept unless tracked; of the frames at fs (the callers') the slots may change (an exception that passes writes there); of the records at ex (iterators) nothing is said -/
structure Un (fs ex : List Addr) (H H' : Hp) (h h' : Heap) : Prop where
  keep : ∀ b o, h.get? b = some o → H b = none → b ∉ fs → b ∉ ex → h'.get? b = some o
  slot : ∀ b o, h.get? b = some o → H b = none → b ∈ fs → b ∉ ex → ∃ sl, h'.get? b = some { o with slots := sl }
  free : ∀ b o, h.get? b = some o → H b = none → b ∉ ex → H' b = none
  there : ∀ b o, h.get? b = some o → b ∉ ex → ∃ o', h'.get? b = some o'
  tups : ∀ b xs, H b = some (.tup xs) → H' b = some (.tup xs)
  frzs : ∀ b o u, H b = some (.frz o u) → H' b = some (.frz o u)
  tbls : ∀ b ps, H b = some (.tbl ps) → ∃ more, H' b = some (.tbl (ps ++ more))
section
variable {fs fs' ex ex' : List Addr} {H H1 H2 : Hp} {h h1 h2 h' : Heap} {a x e : Addr} {o : HO}
theorem Un.any (u : Un fs ex H H1 h h1) {b : Addr} {ob : Obj} (q : h.get? b = some ob) (n : H b = none) (hx : b ∉ ex) : ∃ sl, h1.get? b = some { ob with slots := sl } := by
  by_cases hb : b ∈ fs
  · exact u.slot b ob q n hb hx
  · exact ⟨ob.slots, u.keep b ob q n hb hx⟩
theorem Un.kept (k : ∀ b u, h.get? b = some u → h'.get? b = some u) : Un fs ex H H h h' :=
  ⟨fun b ob q _ _ _ => k b ob q, fun b ob q _ _ _ => ⟨ob.slots, k b ob q⟩, fun _ _ _ n _ => n, fun b ob q _ => ⟨ob, k b ob q⟩, fun _ _ q => q, fun _ _ _ q => q, fun _ ps q => ⟨#[], by rw [q]; simp⟩⟩
theorem Un.refl : Un fs ex H H h h := Un.kept fun _ _ q => q
theorem Un.laid (k : ∀ b u, h.get? b = some u → h'.get? b = some u) (hp : h.objs.size ≤ a) (hn : H a = none) : Un fs ex H (upd H a o) h h' where
  keep := fun b u q _ _ _ => k b u q
  slot := fun b u q _ _ _ => ⟨u.slots, k b u q⟩
  free := fun b u q n _ => by rw [upd_ne (Nat.ne_of_lt (Nat.lt_of_lt_of_le (Heap.lt_size q) hp))]; exact n
  there := fun b u q _ => ⟨u, k b u q⟩
  tups := fun b xs q => by rw [upd_ne (ne_of_none q hn)]; exact q
  frzs := fun b u xs q => by rw [upd_ne (ne_of_none q hn)]; exact q
  tbls := fun b ps q => ⟨#[], by rw [upd_ne (ne_of_none q hn), q]; simp⟩
theorem Un.write (mu : Mut (H x)) (he : e = x ∨ H e = some (.own x)) (k : ∀ b u, b ≠ e → h.get? b = some u → h'.get? b = some u) (heo : ∃ u, h'.get? e = some u) : Un fs ex H (upd H x o) h h' := by
  have hx : ∀ b, H b = none → b ≠ x := fun b n z => by subst z; rw [n] at mu; exact mu
  have hb : ∀ b, H b = none → b ≠ e := fun b n z => by
    subst z
    rcases he with r | r
    · exact hx b n r
    · rw [n] at r; cases r
  have hm : ∀ b u, H b = some u → ¬ Mut (some u) → b ≠ x := fun b u q nm z => by subst z; rw [q] at mu; exact nm mu
  refine ⟨fun b u q n _ _ => k b u (hb b n) q, fun b u q n _ _ => ⟨u.slots, k b u (hb b n) q⟩, fun b u q n _ => by rw [upd_ne (hx b n)]; exact n, fun b u q _ => ?_,
    fun b xs q => by rw [upd_ne (hm b _ q fun z => z)]; exact q, fun b u xs q => by rw [upd_ne (hm b _ q fun z => z)]; exact q, fun b ps q => ⟨#[], by rw [upd_ne (hm b _ q fun z => z), q]; simp⟩⟩
  by_cases hbe : b = e
  · subst hbe; exact heo
  · exact ⟨u, k b u hbe q⟩
end

/-! ### the heap without what is tracked -/
def trk (h : Heap) (H : Hp) : List Addr := (List.range h.objs.size).filter fun a => (H a).isSome
def hidT (h : Heap) (H : Hp) : Heap := PySem.W.hideAll h (trk h H)
theorem hidT_size (h : Heap) (H : Hp) : (hidT h H).objs.size = h.objs.size := PySem.W.hideAll_size _ _
theorem hidT_get {h : Heap} {H : Hp} {b : Addr} {o : Obj} (e : h.get? b = some o) (n : H b = none) : (hidT h H).get? b = some o :=
  PySem.W.hideAll_get _ e fun hm => by
    have q : (H b).isSome = true := (List.mem_filter.mp hm).2
    rw [n] at q; simp at q
theorem of_hidT {h : Heap} {H : Hp} {b : Addr} {o : Obj} (e : (hidT h H).get? b = some o) : h.get? b = some o ∧ H b = none := by
  have e' : h.get? b = some o := PySem.W.of_hideAll (trk h H) e
  refine ⟨e', ?_⟩
  cases q : H b with
  | none => rfl
  | some x =>
    have hm : b ∈ trk h H := List.mem_filter.mpr ⟨List.mem_range.mpr (Heap.lt_size e'), by simp [q]⟩
    have z : (hidT h H).get? b = none := PySem.W.hideAll_none (trk h H) hm
    rw [z] at e; cases e

/-! ### OpenK's ledger, filled with every new object but one -/
def allNews (g h : Heap) (L : Addr) : List (Addr × Obj) := (List.range h.objs.size).filterMap fun a => if a = L ∨ (g.get? a).isSome = true then none else (h.get? a).map fun o => (a, o)
def rest (g h : Heap) (L d : Addr) : List (Addr × Obj) := (allNews g h L).filter fun p => decide (p.1 ≠ d)
end L2

namespace L2
open PySem PySem.Spec PyProof.Rows

/-- the module's facts, over the base: the heap at the law's entry without what is tracked there -/
structure Mod (K : PySem.W.Frag) (mg : Str → Option Value) (base : Heap) : Prop where
  kin : K.In base
  glob : base.Ns mainGlobals mg
  blt : ∃ mb, base.Ns builtinsNs mb ∧ ∀ x : Str, x ≠ "__name__" → mb x = bootBuiltins x
  nolimit : base.NoLimit

/-- the context: a def's body (or a comprehension's block) running. base: fixed through the whole law; s₀, H₀: the entry; outer: the frames whose slots others may change (a def's callers); stack: all frames that run;
   ex: iterators that were made ahead of the entry and are walked here (a comprehension's); fn: the names whose cells were made at the entry (a def: all; a comprehension's block: its own); calm: not within an except suite; pn: pins that every state bears; xe: what is wanted of an exception that leaves the code -/
structure Cx where
  prog : Program
  w : World
  K : PySem.W.Frag
  mg : Str → Option Value
  base : Heap
  A : Around
  N : List Str
  s₀ : Shared
  H₀ : Hp
  env : Env
  outer : List Env
  stack : List Env
  ex : List Addr
  fn : Str → Bool
  calm : Bool
  pn : List (Addr × Obj)
  xe : Value → Shared → Prop
/-- the callers' frames -/
def frs (l : List Env) : List Addr := l.filterMap (·.frame)
abbrev Cx.fs (X : Cx) : List Addr := frs X.outer

def Vis (sc : Scope) (x : Str) : Prop := sc.names.lookup x = some .local ∨ sc.names.lookup x = some .cell ∨ sc.names.lookup x = some .free
def Loc (sc : Scope) (x : Str) : Prop := sc.names.lookup x = some .local ∨ sc.names.lookup x = some .cell
def Look (env : Env) (h : Heap) (m : Str → Option Value) (x : Str) (u : Value) : Prop :=
  (env.kindOf x = some .local ∧ m x = some u) ∨ ((env.kindOf x = some .cell ∨ env.kindOf x = some .free) ∧ ∃ c, env.cells.lookup x = some c ∧ h.IsCell c (some u))

structure Cx.Ok (X : Cx) : Prop where
  mod : Mod X.K X.mg X.base
  kind : X.env.scope.kind = .function
  glob : X.env.globals = mainGlobals
  blt : X.env.builtins = builtinsNs
  above : X.s₀.heap.objs.size ≤ X.env.locals
  inj : ∀ x y c, X.env.cells.lookup x = some c → X.env.cells.lookup y = some c → x = y
  has : ∀ x, (X.env.kindOf x = some .cell ∨ X.env.kindOf x = some .free) → ∃ c, X.env.cells.lookup x = some c
  cab : ∀ x c, X.fn x = true → X.env.cells.lookup x = some c → X.s₀.heap.objs.size ≤ c
  hd : X.calm = true → X.A.handled = none
  frames : X.A.frames = some X.stack
  stk : X.stack = X.outer ∨ (X.stack = X.env :: X.outer ∧ X.env.frame = some X.env.locals)
  exf : ∀ b ∈ X.ex, b ≠ X.env.locals ∧ ∀ x c, X.env.cells.lookup x = some c → c ≠ b
  bs : ∀ b o, X.base.get? b = some o → X.s₀.heap.get? b = some o ∧ X.H₀ b = none
  bsz : X.base.objs.size ≤ X.s₀.heap.objs.size
  noex : ∀ b o, X.base.get? b = some o → b ∉ X.ex
  exfs : ∀ b ∈ X.ex, b ∉ X.fs
  funs : X.s₀.heap.FunFrames X.base X.outer
  frf : ∀ b ∈ X.fs, X.H₀ b = none

structure Inv (X : Cx) (pins : List (Addr × Obj)) (σ : List (Option V)) (H : Hp) (s : Shared) : Prop where
  ok : X.Ok
  os : s.os = X.s₀.os
  bare : AllBare s.gens
  base : Un X.fs X.ex X.H₀ H X.s₀.heap s.heap
  loc : ∃ m, s.heap.Ns X.env.locals m ∧ ∀ (i : Nat) (x : Str) (v : V), X.N[i]? = some x → σ[i]? = some (some v) → Vis X.env.scope x → ∃ u, RelV v u ∧ Look X.env s.heap m x u
  cell : ∀ x c, X.env.cells.lookup x = some c → ∃ v, s.heap.IsCell c v
  free : H X.env.locals = none
  freeC : ∀ x c, X.env.cells.lookup x = some c → H c = none
  pin : ∀ p ∈ X.pn ++ pins, s.heap.get? p.1 = some p.2 ∧ H p.1 = none ∧ p.1 ≠ X.env.locals ∧ p.1 ∉ X.fs ∧ ∀ v, p.2.data ≠ .cell v
  hok : HOk X.prog X.w H s.heap
  len : σ.length = X.N.length

section
variable {X : Cx} {pins : List (Addr × Obj)} {σ : List (Option V)} {H H' : Hp} {s : Shared} {h' : Heap}

theorem Cx.Ok.nofr (ok : X.Ok) {b : Addr} {o : Obj} (e : X.base.get? b = some o) : b ∉ X.fs := fun hb => by
  have := (ok.funs.mem hb).1
  rw [e] at this; cases this
theorem Inv.bs (I : Inv X pins σ H s) : ∀ b o, X.base.get? b = some o → s.heap.get? b = some o ∧ H b = none := fun b o e =>
  ⟨I.base.keep b o (I.ok.bs b o e).1 (I.ok.bs b o e).2 (I.ok.nofr e) (I.ok.noex b o e), I.base.free b o (I.ok.bs b o e).1 (I.ok.bs b o e).2 (I.ok.noex b o e)⟩
theorem Inv.bk (I : Inv X pins σ H s) : ∀ b o, X.base.get? b = some o → s.heap.get? b = some o := fun b o e => (I.bs b o e).1
theorem Inv.mod (I : Inv X pins σ H s) : Mod X.K X.mg X.base := I.ok.mod
theorem Inv.kIn (I : Inv X pins σ H s) : X.K.In s.heap := I.ok.mod.kin.keeps I.bk
theorem Inv.lt (I : Inv X pins σ H s) : X.env.locals < s.heap.objs.size := let ⟨_, hn, _⟩ := I.loc; hn.lt
theorem Inv.sz (I : Inv X pins σ H s) : X.s₀.heap.objs.size ≤ s.heap.objs.size := Nat.le_trans I.ok.above (Nat.le_of_lt I.lt)
theorem Inv.nofs (I : Inv X pins σ H s) {a : Addr} (h : s.heap.objs.size ≤ a) : a ∉ X.fs := fun hb => by
  obtain ⟨_, o, ho, _⟩ := I.ok.funs.mem hb
  exact absurd (Nat.lt_of_lt_of_le (Heap.lt_size ho) (Nat.le_trans I.sz h)) (Nat.lt_irrefl _)
theorem Inv.cne (I : Inv X pins σ H s) : ∀ x c, X.env.cells.lookup x = some c → c ≠ X.env.locals := fun x c e z => by
  obtain ⟨v, o, ho, hd⟩ := I.cell x c e
  obtain ⟨m, ⟨o', es, ep, ho', hd', _⟩, _⟩ := I.loc
  rw [z, ho'] at ho; cases ho; rw [hd'] at hd; cases hd
theorem Inv.funs (I : Inv X pins σ H s) : s.heap.FunFrames X.base X.outer := by
  have all : ∀ (l : List Env), (∀ b ∈ frs l, b ∈ X.fs) → X.s₀.heap.FunFrames X.base l → s.heap.FunFrames X.base l := by
    intro l
    induction l with
    | nil => intro _ _; trivial
    | cons env r ih =>
      intro hs hl
      obtain ⟨hk, ⟨L, o, hf, hn, ho, hd⟩, hr⟩ := hl
      have hL : L ∈ X.fs := hs L (by unfold frs; rw [List.filterMap_cons, hf]; exact List.mem_cons_self)
      obtain ⟨sl, e⟩ := I.base.slot L o ho (I.ok.frf L hL) hL fun z => I.ok.exfs L z hL
      exact ⟨hk, ⟨L, _, hf, hn, e, hd⟩, ih (fun b hb => hs b (by unfold frs; rw [List.filterMap_cons, hf]; exact List.mem_cons_of_mem _ hb)) hr⟩
  exact all X.outer (fun _ hb => hb) I.ok.funs

/-- the frames that run, for a call -/
theorem Inv.stack (I : Inv X pins σ H s) : s.heap.FunFrames X.base X.stack := by
  rcases I.ok.stk with e | ⟨e, hf⟩
  · rw [e]; exact I.funs
  · rw [e]
    obtain ⟨m, hn, _⟩ := I.loc
    refine .cons (by rw [I.ok.kind]; decide) hf hn ?_ I.funs
    exact Heap.get?_none_of_le (Nat.le_trans I.ok.bsz I.ok.above)
theorem Inv.stkSub (I : Inv X pins σ H s) : ∀ b ∈ frs X.stack, b ∈ X.env.locals :: X.fs := fun b hb => by
  rcases I.ok.stk with e | ⟨e, hf⟩
  · rw [e] at hb; exact List.mem_cons_of_mem _ hb
  · rw [e] at hb
    unfold frs at hb
    rw [List.filterMap_cons, hf] at hb
    exact hb
theorem Inv.stkFree (I : Inv X pins σ H s) : ∀ b ∈ frs X.stack, H b = none := fun b hb => by
  rcases List.mem_cons.mp (I.stkSub b hb) with e | hb
  · rw [e]; exact I.free
  · obtain ⟨_, o, ho, _⟩ := I.ok.funs.mem hb
    exact I.base.free b o ho (I.ok.frf b hb) fun z => I.ok.exfs b z hb

/-- THE STEP: the untracked objects but the frame and the records at ch are kept (the callers' frames up to slots), the frame's map is kept, the new abstract heap is held -/
theorem Inv.step {g' : Array GenState} {t' : Nat} {d' : Drawn} {ch : List Addr} (I : Inv X pins σ H s)
    (hch : ∀ b ∈ ch, (b ∈ X.ex ∨ X.s₀.heap.objs.size ≤ b) ∧ b ≠ X.env.locals ∧ (∀ x c, X.env.cells.lookup x = some c → c ≠ b) ∧ ∀ p ∈ X.pn ++ pins, p.1 ≠ b)
    (keep : ∀ b o, b ≠ X.env.locals → b ∉ X.fs → b ∉ ch → s.heap.get? b = some o → H b = none → h'.get? b = some o)
    (slot : ∀ b o, b ≠ X.env.locals → b ∈ X.fs → b ∉ ch → s.heap.get? b = some o → H b = none → ∃ sl, h'.get? b = some { o with slots := sl }) (free : ∀ b o, b ∉ ch → s.heap.get? b = some o → H b = none → H' b = none)
    (there : ∀ b o, b ∉ ch → s.heap.get? b = some o → ∃ o', h'.get? b = some o')
    (tups : ∀ b xs, H b = some (.tup xs) → H' b = some (.tup xs)) (frzs : ∀ b o u, H b = some (.frz o u) → H' b = some (.frz o u)) (tbls : ∀ b ps, H b = some (.tbl ps) → ∃ more, H' b = some (.tbl (ps ++ more)))
    (ns : ∀ m, s.heap.Ns X.env.locals m → h'.Ns X.env.locals m) (hok : HOk X.prog X.w H' h') (hg : AllBare g') :
    Inv X pins σ H' { s with heap := h', gens := g', drawn := d', toks := t' } := by
  have neL : ∀ b o, X.s₀.heap.get? b = some o → b ≠ X.env.locals := fun b o e => Nat.ne_of_lt (Nat.lt_of_lt_of_le (Heap.lt_size e) I.ok.above)
  have neC : ∀ b o, X.s₀.heap.get? b = some o → b ∉ X.ex → b ∉ ch := fun b o e hx hb => by
    rcases (hch b hb).1 with z | z
    · exact hx z
    · exact absurd (Nat.lt_of_lt_of_le (Heap.lt_size e) z) (Nat.lt_irrefl _)
  have cellK : ∀ x c, X.env.cells.lookup x = some c → ∀ v, s.heap.IsCell c v → h'.IsCell c v := fun x c e v ⟨o, ho, hd⟩ => by
    have nch : c ∉ ch := fun z => (hch c z).2.2.1 x c e rfl
    by_cases hc : c ∈ X.fs
    · obtain ⟨sl, q⟩ := slot c o (I.cne x c e) hc nch ho (I.freeC x c e)
      exact ⟨_, q, hd⟩
    · exact ⟨o, keep c o (I.cne x c e) hc nch ho (I.freeC x c e), hd⟩
  refine ⟨I.ok, I.os, hg, ⟨fun b o e n hb hx => ?_, fun b o e n hb hx => ?_, fun b o e n hx => ?_, fun b o e hx => ?_, fun b xs e => tups b xs (I.base.tups b xs e), fun b o xs e => frzs b o xs (I.base.frzs b o xs e), fun b ps e => ?_⟩, ?_, fun x c e => ?_, ?_, fun x c e => ?_, fun p hp => ?_, hok, I.len⟩
  · exact keep b o (neL b o e) hb (neC b o e hx) (I.base.keep b o e n hb hx) (I.base.free b o e n hx)
  · obtain ⟨sl, e1⟩ := I.base.slot b o e n hb hx
    obtain ⟨sl', e2⟩ := slot b _ (neL b o e) hb (neC b o e hx) e1 (I.base.free b o e n hx)
    exact ⟨sl', e2⟩
  · obtain ⟨o', e1⟩ := I.base.there b o e hx
    exact free b o' (neC b o e hx) e1 (I.base.free b o e n hx)
  · obtain ⟨o', e1⟩ := I.base.there b o e hx
    exact there b o' (neC b o e hx) e1
  · obtain ⟨m1, e1⟩ := I.base.tbls b ps e
    obtain ⟨m2, e2⟩ := tbls b _ e1
    exact ⟨m1 ++ m2, by rw [e2, Array.append_assoc]⟩
  · obtain ⟨m, hn, hl⟩ := I.loc
    refine ⟨m, ns m hn, fun i x v e1 e2 e3 => ?_⟩
    obtain ⟨u, r, l⟩ := hl i x v e1 e2 e3
    refine ⟨u, r, ?_⟩
    rcases l with l | ⟨k, c, e, z⟩
    · exact .inl l
    · exact .inr ⟨k, c, e, cellK x c e _ z⟩
  · obtain ⟨v, z⟩ := I.cell x c e
    exact ⟨v, cellK x c e v z⟩
  · obtain ⟨m, ⟨o, _, _, ho, _⟩, _⟩ := I.loc
    exact free _ o (fun z => (hch _ z).2.1 rfl) ho I.free
  · obtain ⟨v, o, ho, hd⟩ := I.cell x c e
    exact free c o (fun z => (hch c z).2.2.1 x c e rfl) ho (I.freeC x c e)
  · obtain ⟨e, n, ne, nf, d⟩ := I.pin p hp
    have nch : p.1 ∉ ch := fun z => (hch p.1 z).2.2.2 p hp rfl
    exact ⟨keep p.1 p.2 ne nf nch e n, free p.1 p.2 nch e n, ne, nf, d⟩
/-- .. where the frame's own object is kept too -/
theorem Inv.un {t' : Nat} (I : Inv X pins σ H s) (u : Un X.fs [] H H' s.heap h') (hok : HOk X.prog X.w H' h') : Inv X pins σ H' { s with heap := h', toks := t' } := by
  obtain ⟨m, ⟨o, es, ep, ho, r⟩, _⟩ := id I.loc
  obtain ⟨sl, hL⟩ := u.any ho I.free (by simp)
  exact I.step (g' := s.gens) (d' := s.drawn) (ch := []) (fun _ z => nomatch z) (fun b o _ hb _ e n => u.keep b o e n hb (by simp)) (fun b o _ hb _ e n => u.slot b o e n hb (by simp)) (fun b o _ e n => u.free b o e n (by simp)) (fun b o _ e => u.there b o e (by simp)) u.tups u.frzs u.tbls (fun m' hm => by
    obtain ⟨o', es', ep', ho', r'⟩ := hm
    rw [ho] at ho'; cases ho'
    exact ⟨_, es', ep', hL, r'⟩) hok I.bare
/-- behind a call (or a comprehension's block): the slots of this frame may have changed too, the records at ch may have turned -/
theorem Inv.call {g' : Array GenState} {t' : Nat} {d' : Drawn} {ch : List Addr} (I : Inv X pins σ H s) (u : Un (frs X.stack) ch H H' s.heap h') (hok : HOk X.prog X.w H' h') (hg : AllBare g')
    (hch : ∀ b ∈ ch, (b ∈ X.ex ∨ X.s₀.heap.objs.size ≤ b) ∧ b ≠ X.env.locals ∧ (∀ x c, X.env.cells.lookup x = some c → c ≠ b) ∧ ∀ p ∈ X.pn ++ pins, p.1 ≠ b) :
    Inv X pins σ H' { s with heap := h', gens := g', drawn := d', toks := t' } := by
  obtain ⟨m, ⟨o, es, ep, ho, r⟩, _⟩ := id I.loc
  obtain ⟨sl, hL⟩ := u.any ho I.free fun z => (hch _ z).2.1 rfl
  exact I.step (ch := ch) hch (fun b o hL hb hc e n => u.keep b o e n (fun z => (List.mem_cons.mp (I.stkSub b z)).elim hL hb) hc) (fun b o _ _ hc e n => u.any e n hc) (fun b o hc e n => u.free b o e n hc) (fun b o hc e => u.there b o e hc) u.tups u.frzs u.tbls (fun m' hm => by
    obtain ⟨o', es', ep', ho', r'⟩ := hm
    rw [ho] at ho'; cases ho'
    exact ⟨_, es', ep', hL, r'⟩) hok hg
/-- an untracked record of ours (an iterator) has turned -/
theorem Inv.turned {t' : Nat} {it : Addr} (I : Inv X pins σ H s) (k : ∀ b o, b ≠ it → s.heap.get? b = some o → h'.get? b = some o) (hn : H it = none) (hL : it ≠ X.env.locals)
    (h1 : it ∈ X.ex ∨ X.s₀.heap.objs.size ≤ it) (h2 : ∀ x c, X.env.cells.lookup x = some c → c ≠ it) (h3 : ∀ p ∈ X.pn ++ pins, p.1 ≠ it) : Inv X pins σ H { s with heap := h', toks := t' } := by
  have nit : ∀ b u, H b = some u → b ≠ it := fun b u e z => by rw [z, hn] at e; cases e
  refine I.step (g' := s.gens) (d' := s.drawn) (ch := [it]) (fun b hb => ?_) (fun b o _ _ hc e _ => k b o (fun z => hc (by simp [z])) e) (fun b o _ _ hc e _ => ⟨o.slots, k b o (fun z => hc (by simp [z])) e⟩) (fun _ _ _ _ n => n)
    (fun b o hc e => ⟨o, k b o (fun z => hc (by simp [z])) e⟩) (fun _ _ e => e) (fun _ _ _ e => e) (fun b ps e => ⟨#[], by rw [e]; simp⟩) (fun m hm => ?_) (fun b u e => ?_) I.bare
  · have e : b = it := by simpa using hb
    subst e
    exact ⟨h1, hL, h2, h3⟩
  · obtain ⟨o, es, ep, ho, r⟩ := hm
    exact ⟨o, es, ep, k _ o (Ne.symm hL) ho, r⟩
  · refine (I.hok b u e).stay (fun c v hc q => k c v ?_ q) (fun _ q => q) fun _ _ q => q
    rcases hc with z | z
    · rw [z]; exact nit b u e
    · exact nit c _ z
theorem Inv.tok (I : Inv X pins σ H s) (t : Nat) : Inv X pins σ H { s with toks := t } := I.un (h' := s.heap) (t' := t) Un.refl I.hok
/-- all objects kept -/
theorem Inv.kept {t' : Nat} (I : Inv X pins σ H s) (k : ∀ b u, s.heap.get? b = some u → h'.get? b = some u) : Inv X pins σ H { s with heap := h', toks := t' } := I.un (Un.kept k) (I.hok.kept k)
/-- a new object laid and tracked -/
theorem Inv.laid {a : Addr} {o : HO} {t' : Nat} (I : Inv X pins σ H s) (k : ∀ b u, s.heap.get? b = some u → h'.get? b = some u) (hp : s.heap.objs.size ≤ a) (new : ObjOk X.prog X.w (upd H a o) h' a o) :
    Inv X pins σ (upd H a o) { s with heap := h', toks := t' } := I.un (Un.laid k hp (I.hok.fresh hp)) (I.hok.laid k hp new)
/-- an object written -/
theorem Inv.write {x e : Addr} {o : HO} {t' : Nat} (I : Inv X pins σ H s) (mu : Mut (H x)) (he : e = x ∨ H e = some (.own x)) (k : ∀ b u, b ≠ e → s.heap.get? b = some u → h'.get? b = some u) (heo : ∃ u, h'.get? e = some u)
    (new : ObjOk X.prog X.w (upd H x o) h' x o) : Inv X pins σ (upd H x o) { s with heap := h', toks := t' } := I.un (Un.write mu he k heo) (I.hok.write mu he k heo new)
theorem Inv.pins_of {pins' : List (Addr × Obj)} (I : Inv X pins σ H s) (h : ∀ p ∈ pins', s.heap.get? p.1 = some p.2 ∧ H p.1 = none ∧ p.1 ≠ X.env.locals ∧ p.1 ∉ X.fs ∧ ∀ v, p.2.data ≠ .cell v) : Inv X pins' σ H s :=
  ⟨I.ok, I.os, I.bare, I.base, I.loc, I.cell, I.free, I.freeC, fun p hp => (List.mem_append.mp hp).elim (fun z => I.pin p (List.mem_append_left _ z)) (h p), I.hok, I.len⟩

theorem nodup_ix {N : List Str} (hN : N.Nodup) {i j : Nat} {x : Str} (a : N[i]? = some x) (b : N[j]? = some x) : i = j := by
  obtain ⟨h1, e1⟩ := List.getElem?_eq_some_iff.mp a
  obtain ⟨h2, e2⟩ := List.getElem?_eq_some_iff.mp b
  exact (List.getElem_inj hN).mp (e1.trans e2.symm)

/-- a name is stored; what changed -/
theorem store_ok2 {M : Model} {A : Around} {E : Value → Shared → Prop} {i : Nat} {x : Str} {v : V} {u : Value} {Q : Unit → Shared → Prop} (I : Inv X pins σ H s) (hN : X.N.Nodup) (hi : X.N[i]? = some x) (hx : Loc X.env.scope x) (r : RelV v u)
    (h : ∀ s', Inv X pins (σ.set i (some v)) H s' → (∃ a, Heap.SameBut a s.heap s'.heap ∧ (a = X.env.locals ∨ X.env.cells.lookup x = some a)) → Q () s') (hf : X.fn x = true ∨ X.env.scope.names.lookup x = some .local := by first | exact .inl rfl | exact .inr rfl | assumption) : wpAny M A (storeName X.env x u) Q E s := by
  obtain ⟨m, hn, hl⟩ := id I.loc
  have hcls : (X.env.scope.kind == .class || (X.env.scope.kind == .module && X.env.locals != X.env.globals)) = false := by rw [I.ok.kind]; rfl
  have hiσ : i < σ.length := by rw [I.len]; exact (List.getElem?_eq_some_iff.mp hi).1
  have cne := I.cne
  have tracked : ∀ {a : Addr} {h' : Heap}, (∃ o, s.heap.get? a = some o ∧ H a = none) → Heap.SameBut a s.heap h' → HOk X.prog X.w H h' := fun {a h'} ha hs b ob e => by
    obtain ⟨_, _, hfree⟩ := ha
    refine (I.hok b ob e).stay (fun c w' hc q => (hs.2 c ?_).trans q) (fun _ q => q) fun _ _ q => q
    rintro rfl
    rcases hc with rfl | hc
    · rw [hfree] at e; cases e
    · rw [hfree] at hc; cases hc
  rcases hx with hk | hk
  · refine wpAny_storeName_local hk hn (fun h' hn' hs => ?_) hcls
    obtain ⟨oL, _, _, hoL, _⟩ := id hn
    refine h _ ⟨I.ok, I.os, I.bare, ⟨fun b o e n hb hx => ?_, fun b o e n hb hx => ?_, I.base.free, fun b o e hx => ?_, I.base.tups, I.base.frzs, I.base.tbls⟩, ⟨_, hn', fun j y v' e1 e2 e3 => ?_⟩, fun y c e => ?_, I.free, I.freeC, fun p hp => ?_, tracked ⟨oL, hoL, I.free⟩ hs, by simpa using I.len⟩ ⟨_, hs, .inl rfl⟩
    · exact (hs.2 b (Nat.ne_of_lt (Nat.lt_of_lt_of_le (Heap.lt_size e) I.ok.above))).trans (I.base.keep b o e n hb hx)
    · obtain ⟨sl, e1⟩ := I.base.slot b o e n hb hx
      exact ⟨sl, (hs.2 b (Nat.ne_of_lt (Nat.lt_of_lt_of_le (Heap.lt_size e) I.ok.above))).trans e1⟩
    · obtain ⟨o', e1⟩ := I.base.there b o e hx
      exact ⟨o', (hs.2 b (Nat.ne_of_lt (Nat.lt_of_lt_of_le (Heap.lt_size e) I.ok.above))).trans e1⟩
    · by_cases hj : j = i
      · subst hj
        rw [hi] at e1; cases e1
        rw [List.getElem?_set_self hiσ] at e2
        cases e2
        exact ⟨u, r, .inl ⟨hk, by simp⟩⟩
      · rw [List.getElem?_set_ne (Ne.symm hj)] at e2
        obtain ⟨u', r', q⟩ := hl j y v' e1 e2 e3
        refine ⟨u', r', ?_⟩
        rcases q with ⟨k, e⟩ | ⟨k, c, e, z⟩
        · refine .inl ⟨k, ?_⟩
          have : y ≠ x := fun e => hj (nodup_ix hN e1 (e ▸ hi))
          simp [this, e]
        · exact .inr ⟨k, c, e, z.sameBut hs (cne y c e)⟩
    · obtain ⟨w', z⟩ := I.cell y c e
      exact ⟨w', z.sameBut hs (cne y c e)⟩
    · obtain ⟨e, n, ne, nf, d⟩ := I.pin p hp
      exact ⟨(hs.2 p.1 ne).trans e, n, ne, nf, d⟩
  · have hfn : X.fn x = true := by
      rcases hf with z | z
      · exact z
      · rw [z] at hk; cases hk
    obtain ⟨c, hc⟩ := I.ok.has x (.inl hk)
    obtain ⟨w', z⟩ := I.cell x c hc
    refine wpAny_storeName_cell I.ok.kind hk hc z (fun h' hc' hs => ?_)
    obtain ⟨oc, hoc, hocd⟩ := id z
    refine h { s with heap := h' } ⟨I.ok, I.os, I.bare, ⟨fun b o e n hb hx => ?_, fun b o e n hb hx => ?_, I.base.free, fun b o e hx => ?_, I.base.tups, I.base.frzs, I.base.tbls⟩, ⟨m, hn.sameBut hs (Ne.symm (cne x c hc)), fun j y v' e1 e2 e3 => ?_⟩, fun y c' e => ?_, I.free, I.freeC, fun p hp => ?_, tracked ⟨oc, hoc, I.freeC x c hc⟩ hs, by simpa using I.len⟩ ⟨c, hs, .inr hc⟩
    · exact (hs.2 b (Nat.ne_of_lt (Nat.lt_of_lt_of_le (Heap.lt_size e) (I.ok.cab x c hfn hc)))).trans (I.base.keep b o e n hb hx)
    · obtain ⟨sl, e1⟩ := I.base.slot b o e n hb hx
      exact ⟨sl, (hs.2 b (Nat.ne_of_lt (Nat.lt_of_lt_of_le (Heap.lt_size e) (I.ok.cab x c hfn hc)))).trans e1⟩
    · obtain ⟨o', e1⟩ := I.base.there b o e hx
      exact ⟨o', (hs.2 b (Nat.ne_of_lt (Nat.lt_of_lt_of_le (Heap.lt_size e) (I.ok.cab x c hfn hc)))).trans e1⟩
    · by_cases hj : j = i
      · subst hj
        rw [hi] at e1; cases e1
        rw [List.getElem?_set_self hiσ] at e2
        cases e2
        exact ⟨u, r, .inr ⟨.inl hk, c, hc, hc'⟩⟩
      · rw [List.getElem?_set_ne (Ne.symm hj)] at e2
        obtain ⟨u', r', q⟩ := hl j y v' e1 e2 e3
        refine ⟨u', r', ?_⟩
        rcases q with q | ⟨k, c', e, z'⟩
        · exact .inl q
        · refine .inr ⟨k, c', e, z'.sameBut hs ?_⟩
          rintro rfl
          exact hj (nodup_ix hN e1 (I.ok.inj _ _ _ e hc ▸ hi))
    · by_cases hcc : c' = c
      · subst hcc; exact ⟨_, hc'⟩
      · obtain ⟨w2, z2⟩ := I.cell y c' e
        exact ⟨w2, z2.sameBut hs hcc⟩
    · obtain ⟨e, n, ne, nf, d⟩ := I.pin p hp
      refine ⟨(hs.2 p.1 ?_).trans e, n, ne, nf, d⟩
      intro q
      rw [q, hoc] at e
      have q' : oc = p.2 := Option.some.inj e
      exact d w' (by rw [← q']; exact hocd)
theorem store_ok {M : Model} {A : Around} {E : Value → Shared → Prop} {i : Nat} {x : Str} {v : V} {u : Value} {Q : Unit → Shared → Prop} (I : Inv X pins σ H s) (hN : X.N.Nodup) (hi : X.N[i]? = some x) (hx : Loc X.env.scope x) (r : RelV v u)
    (h : ∀ s', Inv X pins (σ.set i (some v)) H s' → Q () s') (hf : X.fn x = true ∨ X.env.scope.names.lookup x = some .local := by first | exact .inl rfl | exact .inr rfl | assumption) : wpAny M A (storeName X.env x u) Q E s :=
  store_ok2 I hN hi hx r (fun s' I' _ => h s' I') hf
/-- behind a call or a block, the state as it is -/
theorem Inv.call' {s' : Shared} {ch : List Addr} (I : Inv X pins σ H s) (ho : s'.os = s.os) (u : Un (frs X.stack) ch H H' s.heap s'.heap) (hok : HOk X.prog X.w H' s'.heap) (hg : AllBare s'.gens)
    (hch : ∀ b ∈ ch, (b ∈ X.ex ∨ X.s₀.heap.objs.size ≤ b) ∧ b ≠ X.env.locals ∧ (∀ x c, X.env.cells.lookup x = some c → c ≠ b) ∧ ∀ p ∈ X.pn ++ pins, p.1 ≠ b) : Inv X pins σ H' s' := by
  obtain ⟨h', g', d', t', o'⟩ := s'
  have e : o' = s.os := ho
  subst e
  exact I.call (g' := g') (t' := t') (d' := d') u hok hg hch
end

/-! ### the judgements -/
/-- an exception: its class, its own dict's address (where it has one), the abstract heap behind it -/
abbrev XK := Value → Option Addr → Hp → Prop
abbrev St := List (Option V)
abbrev VK := V → Hp → Prop
/-- an expression's reading; a test's; an argument list's -/
abbrev TE := St → Hp → VK → Prop
abbrev TT := St → Hp → (Bool → Hp → Prop) → Prop
abbrev TA := St → Hp → (List V → Hp → Prop) → Prop
/-- what is wanted behind a statement -/
structure Ends where
  nx : St → Hp → Prop
  rt : VK
  bk : St → Hp → Prop := fun _ _ => False
  ct : St → Hp → Prop := fun _ _ => False
abbrev TS := Ends → St → Hp → Prop

def EP (X : Cx) (pins : List (Addr × Obj)) (σ : St) (Q : VK) (u : Value) (s' : Shared) : Prop := ∃ v H', Inv X pins σ H' s' ∧ RelV v u ∧ Q v H'
def TP (X : Cx) (pins : List (Addr × Obj)) (σ : St) (Q : Bool → Hp → Prop) (b : Bool) (s' : Shared) : Prop := ∃ H', Inv X pins σ H' s' ∧ Q b H'
def AP (X : Cx) (pins : List (Addr × Obj)) (σ : St) (Q : List V → Hp → Prop) (us : List Value) (s' : Shared) : Prop := ∃ vs H', Inv X pins σ H' s' ∧ Vals vs us ∧ Q vs H'
def SP (X : Cx) (pins : List (Addr × Obj)) (D : Ends) (f : Flow) (s' : Shared) : Prop :=
  match f with
  | .next => ∃ σ' H', Inv X pins σ' H' s' ∧ D.nx σ' H'
  | .brk => ∃ σ' H', Inv X pins σ' H' s' ∧ D.bk σ' H'
  | .cont => ∃ σ' H', Inv X pins σ' H' s' ∧ D.ct σ' H'
  | .ret u => ∃ v σ' H', Inv X pins σ' H' s' ∧ RelV v u ∧ D.rt v H'

def PE (X : Cx) (e : Expr) (t : TE) : Prop :=
  ∀ (pins : List (Addr × Obj)) (s : Shared) (σ : St) (H : Hp) (Q : VK), Inv X pins σ H s → t σ H Q → wpAny (model X.prog X.w) X.A (eval e X.env) (EP X pins σ Q) X.xe s
def PT (X : Cx) (e : Expr) (t : TT) : Prop :=
  ∀ (pins : List (Addr × Obj)) (s : Shared) (σ : St) (H : Hp) (Q : Bool → Hp → Prop), Inv X pins σ H s → t σ H Q → wpAny (model X.prog X.w) X.A (isTrue e X.env (eval e X.env)) (TP X pins σ Q) X.xe s
/-- a test whatever its 'whole' is (and, or) -/
def PW (X : Cx) (e : Expr) (t : TT) : Prop :=
  ∀ (whole : Sem Value) (pins : List (Addr × Obj)) (s : Shared) (σ : St) (H : Hp) (Q : Bool → Hp → Prop), Inv X pins σ H s → t σ H Q → wpAny (model X.prog X.w) X.A (isTrue e X.env whole) (TP X pins σ Q) X.xe s
theorem PW.pt {X : Cx} {e : Expr} {t : TT} (h : PW X e t) : PT X e t := h _
/-- an argument list (no star), from the left -/
def PA (X : Cx) (es : List Expr) (t : TA) : Prop :=
  ∀ (pos : Pos) (pins : List (Addr × Obj)) (s : Shared) (σ : St) (H : Hp) (Q : List V → Hp → Prop), Inv X pins σ H s → t σ H Q → wpAny (model X.prog X.w) X.A (spliced (backTo pos (starEach es X.env))) (AP X pins σ Q) X.xe s
def PS (X : Cx) (st : Stmt) (t : TS) : Prop :=
  ∀ (pins : List (Addr × Obj)) (s : Shared) (σ : St) (H : Hp) (D : Ends), Inv X pins σ H s → t D σ H → wpAny (model X.prog X.w) X.A (exec st X.env) (SP X pins D) X.xe s
def PSs (X : Cx) (st : List Stmt) (t : TS) : Prop :=
  ∀ (pins : List (Addr × Obj)) (s : Shared) (σ : St) (H : Hp) (D : Ends), Inv X pins σ H s → t D σ H → wpAny (model X.prog X.w) X.A (execs st X.env) (SP X pins D) X.xe s
/-- weaken the end -/
theorem thn {α : Type} {t : Sem α} {Q Q' : α → Shared → Prop} {M : Model} {A : Around} {E : Value → Shared → Prop} {s : Shared} (h : wpAny M A t Q E s) (hQ : ∀ a s, Q a s → Q' a s) : wpAny M A t Q' E s := wpAny_mono h hQ fun _ _ x => x
end L2

namespace L2
open PySem PySem.Spec PyProof.Rows
section
variable {X : Cx}


/-! ### names and constants -/
def tVar (i : Nat) : TE := fun σ H Q => ∃ v, σ[i]? = some (some v) ∧ Q v H
def tC (v : V) : TE := fun _ H Q => Q v H
theorem pe_var {i : Nat} {x : Str} {pos : Pos} (hN : X.N[i]? = some x) (hv : Vis X.env.scope x) (hd : (x == ("__debug__" : Str)) = false := by decide) (hcd : (x == ("__classdict__" : Str)) = false := by decide) : PE X (.Name x pos) (tVar i) := by
  intro pins s σ H Q I h
  obtain ⟨v, e, h⟩ := h
  obtain ⟨m, hn, hl⟩ := I.loc
  obtain ⟨u, r, l⟩ := hl i x v hN e hv
  have fin : EP X pins σ Q u s := ⟨v, H, I, r, h⟩
  rcases l with ⟨hk, hm⟩ | ⟨hk, c, hc, hcell⟩
  · exact wpAny_Name (wpAny_loadName_local I.ok.kind hk hn hm fin) hd
  · rcases hk with hk | hk
    · exact wpAny_Name (wpAny_loadName_cell I.ok.kind hk hc hcell fin) hd
    · exact wpAny_Name (wpAny_loadName_free I.ok.kind hk hc hcell fin hcd) hd
theorem pe_int {i j pos} : PE X (.Constant (.int i) j pos) (tC (.int i)) := fun _ _ _ H _ I h => wpAny_Constant_int ⟨.int i, H, I.tok _, ⟨_, rfl⟩, h⟩
theorem pe_bl {b j pos} : PE X (.Constant (.bool b) j pos) (tC (.bl b)) := fun _ _ _ H _ I h => Constant_bool ⟨.bl b, H, I, rfl, h⟩
theorem pe_str {x j pos} : PE X (.Constant (.str x) j pos) (tC (.str x)) := fun _ _ _ H _ I h => Calls.Constant_str ⟨.str x, H, I.tok _, ⟨_, rfl⟩, h⟩

/-- a global name of the def -/
def Gl (X : Cx) (x : Str) : Prop := X.env.kindOf x = some .globalImplicit
theorem ld_glob {E : Value → Shared → Prop} {pins : List (Addr × Obj)} {s : Shared} {σ : St} {H : Hp} {x : Str} {u : Value} {pos : Pos} {Q : Value → Shared → Prop} (I : Inv X pins σ H s) (hg : Gl X x) (hm : X.mg x = some u) (h : Q u s)
    (hd : (x == ("__debug__" : Str)) = false := by decide) : wpAny (model X.prog X.w) X.A (eval (.Name x pos) X.env) Q E s :=
  Calls.Name_function_global I.ok.kind hg (Calls.loadGlobal_global (by rw [I.ok.glob]; exact I.mod.glob.keeps I.bk) hm h) hd
theorem ld_blt {E : Value → Shared → Prop} {pins : List (Addr × Obj)} {s : Shared} {σ : St} {H : Hp} {x : Str} {u : Value} {pos : Pos} {Q : Value → Shared → Prop} (I : Inv X pins σ H s) (hg : Gl X x) (hm : X.mg x = none) (hv : bootBuiltins x = some u) (h : Q u s)
    (hn : x ≠ "__name__" := by decide) (hd : (x == ("__debug__" : Str)) = false := by decide) : wpAny (model X.prog X.w) X.A (eval (.Name x pos) X.env) Q E s := by
  obtain ⟨mb, h1, h2⟩ := I.mod.blt
  exact Calls.Name_function_global I.ok.kind hg (Calls.loadGlobal_builtin (by rw [I.ok.glob]; exact I.mod.glob.keeps I.bk) hm (by rw [I.ok.blt]; exact h1.keeps I.bk) ((h2 x hn).trans hv) h) hd
/-- a module's constant, a class, a function, as a value -/
theorem pe_glob {x : Str} {v : V} {u : Value} {pos : Pos} (hg : Gl X x) (hm : X.mg x = some u) (r : RelV v u) (hd : (x == ("__debug__" : Str)) = false := by decide) : PE X (.Name x pos) (tC v) :=
  fun _ _ _ H _ I h => ld_glob I hg hm ⟨v, H, I, r, h⟩ hd
theorem pe_bltn {x : Str} {v : V} {u : Value} {pos : Pos} (hg : Gl X x) (hm : X.mg x = none) (hv : bootBuiltins x = some u) (r : RelV v u) (hn : x ≠ "__name__" := by decide) (hd : (x == ("__debug__" : Str)) = false := by decide) : PE X (.Name x pos) (tC v) :=
  fun _ _ _ H _ I h => ld_blt I hg hm hv ⟨v, H, I, r, h⟩ hn hd

/-! ### arithmetic -/
/-- two ints -/
def t2I (ta tb : TE) (k : Int → Int → Hp → Prop) : St → Hp → Prop := fun σ H => ta σ H fun x H1 => tb σ H1 fun y H2 => ∃ i j, x = .int i ∧ y = .int j ∧ k i j H2
def tAdd (ta tb : TE) : TE := fun σ H Q => t2I ta tb (fun i j H2 => Q (.int (i + j)) H2) σ H
def tSub (ta tb : TE) : TE := fun σ H Q => t2I ta tb (fun i j H2 => Q (.int (i - j)) H2) σ H
/-- the left factor below 2^64 -/
def tMul (ta tb : TE) : TE := fun σ H Q => t2I ta tb (fun i j H2 => (-(2 ^ 64) < i ∧ i < 2 ^ 64) ∧ Q (.int (i * j)) H2) σ H
variable {a b : Expr} {ta tb : TE} {pos : Pos}

/-! ### comparisons -/
def PC (X : Cx) (op : CmpOp) (a b : Expr) (t : TE) : Prop :=
  ∀ (pins : List (Addr × Obj)) (s : Shared) (σ : St) (H : Hp) (Q : VK), Inv X pins σ H s → t σ H Q →
    wpAny (model X.prog X.w) X.A (eval a X.env) (fun v s₁ => wpAny (model X.prog X.w) X.A (eval b X.env) (fun u s₂ => wpAny (model X.prog X.w) X.A (compareOp op v u) (EP X pins σ Q) X.xe s₂) X.xe s₁) X.xe s
def tCmp (p : Int → Int → Bool) (ta tb : TE) : TE := fun σ H Q => t2I ta tb (fun i j H2 => Q (.bl (p i j)) H2) σ H
abbrev tLt : TE → TE → TE := tCmp fun i j => decide (i < j)
abbrev tLe : TE → TE → TE := tCmp fun i j => decide (i ≤ j)
abbrev tGt : TE → TE → TE := tCmp fun i j => decide (j < i)
abbrev tGe : TE → TE → TE := tCmp fun i j => decide (j ≤ i)
abbrev tEqI : TE → TE → TE := tCmp fun i j => decide (i = j)
abbrev tNeI : TE → TE → TE := tCmp fun i j => !decide (i = j)
/-- is None -/
def tIsN (ta : TE) : TE := fun σ H Q => ta σ H fun x H1 => Q (.bl (decide (x = .non))) H1
def tNotN (ta : TE) : TE := fun σ H Q => ta σ H fun x H1 => Q (.bl (!decide (x = .non))) H1
/-- a comparison as a value, as a test -/
def tB (t : TE) : TT := fun σ H Q => t σ H fun x H1 => ∃ c, x = .bl c ∧ Q c H1
/-- an expression whose value is a bool, as a test -/
theorem pt_val {e : Expr} {t : TE} (h : PE X e t) (he : ∀ whole, isTrue e X.env whole = (do let v ← whole; standAt e.pos; holding [v] (truthy v)) := by intro _; rfl) : PT X e (tB t) := by
  intro pins s σ H Q I hw
  refine isTrue_plain (thn (h pins s σ H _ I hw) fun v s1 ⟨x, H1, I1, r1, q1⟩ => ?_) (he _)
  obtain ⟨d, rfl, q⟩ := q1
  cases r1
  exact wpAny_truthy_bool ⟨H1, I1, q⟩

/-! ### and, or, not -/
variable {tA tB' : TT} {rest : List Expr}
def tAnd (t u : TT) : TT := fun σ H Q => t σ H fun c H1 => if c = true then u σ H1 Q else Q false H1
def tOr (t u : TT) : TT := fun σ H Q => t σ H fun c H1 => if c = true then Q true H1 else u σ H1 Q
def tNot (t : TT) : TT := fun σ H Q => t σ H fun c H1 => Q (!c) H1
theorem pw_and1 (ha : PT X a tA) : PW X (.BoolOp .And [a] pos) tA := by
  intro wh pins s σ H Q I h
  refine isTrue_and (thn (ha pins s σ H Q I h) fun c s1 e => ?_)
  cases c with
  | true => exact isTrue_and_nil e
  | false => exact e
theorem pw_or1 (ha : PT X a tA) : PW X (.BoolOp .Or [a] pos) tA := by
  intro wh pins s σ H Q I h
  refine isTrue_or (thn (ha pins s σ H Q I h) fun c s1 e => ?_)
  cases c with
  | false => exact isTrue_or_nil e
  | true => exact e
theorem pw_and (ha : PT X a tA) (hb : PW X (.BoolOp .And (b :: rest) pos) tB') : PW X (.BoolOp .And (a :: b :: rest) pos) (tAnd tA tB') := by
  intro wh pins s σ H Q I h
  refine isTrue_and (thn (ha pins s σ H _ I h) fun c s1 ⟨H1, I1, q1⟩ => ?_)
  cases c with
  | true => exact hb wh pins s1 σ H1 Q I1 q1
  | false => exact ⟨H1, I1, q1⟩
theorem pw_or (ha : PT X a tA) (hb : PW X (.BoolOp .Or (b :: rest) pos) tB') : PW X (.BoolOp .Or (a :: b :: rest) pos) (tOr tA tB') := by
  intro wh pins s σ H Q I h
  refine isTrue_or (thn (ha pins s σ H _ I h) fun c s1 ⟨H1, I1, q1⟩ => ?_)
  cases c with
  | true => exact ⟨H1, I1, q1⟩
  | false => exact hb wh pins s1 σ H1 Q I1 q1
theorem pt_not (ha : PT X a tA) : PT X (.UnaryOp .Not a pos) (tNot tA) := by
  intro pins s σ H Q I h
  exact isTrue_not (ha pins s σ H (fun c H1 => Q (!c) H1) I h)
/-- .. as values (bools) -/
def tAndV (ta tb : TE) : TE := fun σ H Q => ta σ H fun x H1 => ∃ c, x = .bl c ∧ if c = true then tb σ H1 Q else Q (.bl false) H1
def tOrV (ta tb : TE) : TE := fun σ H Q => ta σ H fun x H1 => ∃ c, x = .bl c ∧ if c = true then Q (.bl true) H1 else tb σ H1 Q
def tNotV (ta : TE) : TE := fun σ H Q => ta σ H fun x H1 => ∃ c, x = .bl c ∧ Q (.bl (!c)) H1
theorem pe_one {op} {t : TE} (h : PE X a t) : PE X (.BoolOp op [a] pos) t := fun pins s σ H Q I hw => BoolOp_one (h pins s σ H Q I hw)
theorem pe_and (ha : PE X a ta) (hb : PE X (.BoolOp .And (b :: rest) pos) tb) : PE X (.BoolOp .And (a :: b :: rest) pos) (tAndV ta tb) := by
  intro pins s σ H Q I h
  refine BoolOp_and (thn (ha pins s σ H _ I h) fun v s1 ⟨x, H1, I1, r1, q1⟩ => ?_)
  obtain ⟨c, rfl, q1⟩ := q1
  cases r1
  refine wpAny_truthy_bool ?_
  cases c with
  | true => exact hb pins s1 σ H1 Q I1 q1
  | false => exact ⟨.bl false, H1, I1, rfl, q1⟩
theorem pe_not (ha : PE X a ta) : PE X (.UnaryOp .Not a pos) (tNotV ta) := by
  intro pins s σ H Q I h
  refine UnaryOp_ (thn (ha pins s σ H _ I h) fun v s1 ⟨x, H1, I1, r1, q1⟩ => ?_)
  obtain ⟨c, rfl, q1⟩ := q1
  cases r1
  exact not_of (wpAny_truthy_bool ⟨.bl (!c), H1, I1, rfl, q1⟩)
/-- a if t else b -/
def tIf (t : TT) (ta tb : TE) : TE := fun σ H Q => t σ H fun c H1 => if c = true then ta σ H1 Q else tb σ H1 Q
theorem pe_ifExp {c : Expr} (hc : PT X c tA) (ha : PE X a ta) (hb : PE X b tb) : PE X (.IfExp c a b pos) (tIf tA ta tb) := by
  intro pins s σ H Q I h
  refine wpAny_IfExp (thn (hc pins s σ H _ I h) fun d s1 ⟨H1, I1, q1⟩ => ?_)
  cases d with
  | true => exact ha pins s1 σ H1 Q I1 q1
  | false => exact hb pins s1 σ H1 Q I1 q1
end
end L2

namespace L2
open PySem PySem.Spec PyProof.Rows

/-! ### a list, a tuple that is read: tracked, frozen, or an object of the module -/
def SqL (K : PySem.W.Frag) (H : Hp) (a : Addr) (xs : List V) : Prop :=
  Rd H a (.lst xs) ∨
    ∃ (o : Obj) (its : Array Value) (n : Nat), K.lookup a = some o ∧ o.cls = .type "list" ∧ o.dict = none ∧ o.data = .seq its n ∧ its.size ≤ sizeLine ∧ Vals xs its.toList
def SqT (K : PySem.W.Frag) (H : Hp) (a : Addr) (xs : List V) : Prop :=
  Rd H a (.tup xs) ∨
    ∃ (o : Obj) (its : Array Value) (n : Nat), K.lookup a = some o ∧ o.cls = .type "tuple" ∧ o.data = .seq its n ∧ its.size ≤ sizeLine ∧ Vals xs its.toList
def absV : Value → Option V
  | .none => some .non
  | .bool b => some (.bl b)
  | .int i _ => some (.int i)
  | .str x _ => some (.str x)
  | .bytes b _ => some (.byt b)
  | .float b _ => some (.flt b)
  | .ref a => some (.ref a)
  | .type n => some (.ty n)
  | _ => none
theorem RelV.abs {x : V} {u : Value} (r : RelV x u) : absV u = some x := by
  cases x with
  | non => cases r; rfl
  | bl _ => cases r; rfl
  | int _ => obtain ⟨t, rfl⟩ := r; rfl
  | str _ => obtain ⟨t, rfl⟩ := r; rfl
  | byt _ => obtain ⟨t, rfl⟩ := r; rfl
  | flt _ => obtain ⟨t, rfl⟩ := r; rfl
  | ref _ => cases r; rfl
  | ty _ => cases r; rfl
theorem RelV.inj {x y : V} {u : Value} (r : RelV x u) (q : RelV y u) : x = y := Option.some.inj (r.abs.symm.trans q.abs)
theorem Vals.inj : ∀ {xs ys : List V} {us : List Value}, Vals xs us → Vals ys us → xs = ys
  | _, _, _, .nil, .nil => rfl
  | _, _, _, .cons r t, .cons r' t' => by rw [r.inj r', Vals.inj t t']
section
variable {X : Cx} {pins : List (Addr × Obj)} {σ : St} {H : Hp} {s : Shared} {a : Addr} {xs ys : List V}
theorem SqL.of {K : PySem.W.Frag} (h : H a = some (.lst xs)) : SqL K H a xs := .inl (.inl h)
theorem SqT.of {K : PySem.W.Frag} (h : H a = some (.tup xs)) : SqT K H a xs := .inl (.inl h)
theorem Inv.list (I : Inv X pins σ H s) (h : SqL X.K H a xs) : ∃ its : List Value, Vals xs its ∧ PlainL s.heap a its.toArray ∧ xs.length ≤ sizeLine := by
  rcases h with h | ⟨o, its, n, hk, hc, hd, hs, hz, r⟩
  · obtain ⟨z, its, n, r, e⟩ := h.ok I.hok
    exact ⟨its, r, ⟨_, n, e, rfl, rfl, rfl⟩, z⟩
  · refine ⟨its.toList, r, ⟨o, n, I.kIn a o hk, hc, hd, by simpa using hs⟩, ?_⟩
    have e := r.length
    simp only [Array.length_toList] at e
    omega
theorem Inv.tuple (I : Inv X pins σ H s) (h : SqT X.K H a xs) : ∃ its : List Value, Vals xs its ∧ IsTup s.heap a its.toArray ∧ xs.length ≤ sizeLine := by
  rcases h with h | ⟨o, its, n, hk, hc, hs, hz, r⟩
  · obtain ⟨z, its, r, p⟩ := h.ok I.hok
    exact ⟨its, r, p, z⟩
  · refine ⟨its.toList, r, ⟨o, I.kIn a o hk, hc, n, by simpa using hs⟩, ?_⟩
    have e := r.length
    simp only [Array.length_toList] at e
    omega
theorem Inv.list_inj (I : Inv X pins σ H s) (h : SqL X.K H a xs) (h' : SqL X.K H a ys) : xs = ys := by
  obtain ⟨its, r, ⟨o, n, e, _, _, d⟩, _⟩ := I.list h
  obtain ⟨its', r', ⟨o', n', e', _, _, d'⟩, _⟩ := I.list h'
  rw [e] at e'; cases e'
  rw [d] at d'
  injection d' with d1 _
  have : its = its' := by simpa using congrArg Array.toList d1
  subst this
  exact r.inj r'
end

/-! ### another wish about exceptions -/
abbrev Cx.wish (X : Cx) (E : Value → Shared → Prop) : Cx := { X with xe := E }
/-- no exception leaves -/
abbrev Cx.nox (X : Cx) : Cx := X.wish fun _ _ => False
theorem Cx.Ok.wish {X : Cx} (ok : X.Ok) (E : Value → Shared → Prop) : (X.wish E).Ok :=
  ⟨ok.mod, ok.kind, ok.glob, ok.blt, ok.above, ok.inj, ok.has, ok.cab, ok.hd, ok.frames, ok.stk, ok.exf, ok.bs, ok.bsz, ok.noex, ok.exfs, ok.funs, ok.frf⟩
theorem Cx.Ok.unwish {X : Cx} {E : Value → Shared → Prop} (ok : (X.wish E).Ok) : X.Ok :=
  ⟨ok.mod, ok.kind, ok.glob, ok.blt, ok.above, ok.inj, ok.has, ok.cab, ok.hd, ok.frames, ok.stk, ok.exf, ok.bs, ok.bsz, ok.noex, ok.exfs, ok.funs, ok.frf⟩
section
variable {X : Cx} {pins : List (Addr × Obj)} {σ : St} {H : Hp} {s : Shared} {E : Value → Shared → Prop}
theorem Inv.wish (I : Inv X pins σ H s) (E : Value → Shared → Prop) : Inv (X.wish E) pins σ H s := ⟨I.ok.wish E, I.os, I.bare, I.base, I.loc, I.cell, I.free, I.freeC, I.pin, I.hok, I.len⟩
theorem Inv.unwish (I : Inv (X.wish E) pins σ H s) : Inv X pins σ H s := ⟨I.ok.unwish, I.os, I.bare, I.base, I.loc, I.cell, I.free, I.freeC, I.pin, I.hok, I.len⟩
theorem SP.unwish {D : Ends} {f : Flow} {s' : Shared} (h : SP (X.wish E) pins D f s') : SP X pins D f s' := by
  cases f with
  | next => obtain ⟨σ', H', I, q⟩ := h; exact ⟨σ', H', I.unwish, q⟩
  | brk => obtain ⟨σ', H', I, q⟩ := h; exact ⟨σ', H', I.unwish, q⟩
  | cont => obtain ⟨σ', H', I, q⟩ := h; exact ⟨σ', H', I.unwish, q⟩
  | ret u => obtain ⟨v, σ', H', I, r, q⟩ := h; exact ⟨v, σ', H', I.unwish, r, q⟩
theorem PSs.nox {st : List Stmt} {t : TS} (h : PSs X.nox st t) : PSs X st t := fun pins s σ H D I hw =>
  wpAny_mono (h pins s σ H D (I.wish _) hw) (fun _ _ q => q.unwish) fun _ _ z => False.elim z
end

/-! ### blocks and small statements -/
section
variable {X : Cx} {st : Stmt} {rest : List Stmt} {t u : TS} {e : Expr} {te : TE} {pos : Pos}
def tNext : TS := fun D σ H => D.nx σ H
def tSeq (t u : TS) : TS := fun D σ H => t { D with nx := u D } σ H
theorem pss_nil : PSs X [] tNext := fun _ _ σ H _ I h => wpAny_execs_nil ⟨σ, H, I, h⟩
theorem pss_cons (h1 : PS X st t) (h2 : PSs X rest u) : PSs X (st :: rest) (tSeq t u) := by
  intro pins s σ H D I h
  refine wpAny_execs_cons (thn (h1 pins s σ H { D with nx := u D } I h) fun f s1 q => ?_)
  cases f with
  | next =>
    obtain ⟨σ', H', I', q⟩ := q
    exact h2 pins s1 σ' H' D I' q
  | ret v => exact q
  | brk => exact q
  | cont => exact q
theorem pss_one (h1 : PS X st t) : PSs X [st] t := by
  intro pins s σ H D I h
  refine wpAny_execs_cons (thn (h1 pins s σ H D I h) fun f s1 q => ?_)
  cases f with
  | next => exact wpAny_execs_nil q
  | ret v => exact q
  | brk => exact q
  | cont => exact q
def tBreak : TS := fun D σ H => D.bk σ H
def tCont : TS := fun D σ H => D.ct σ H
/-- in a def's body nothing is shown -/
theorem Inv.quiet {pins : List (Addr × Obj)} {σ : St} {H : Hp} {s : Shared} (I : Inv X pins σ H s) : interactive X.env = false := by simp [interactive, I.ok.kind]
/-- an expression whose value is dropped -/
def tDrop (te : TE) : TS := fun D σ H => te σ H fun _ H1 => D.nx σ H1
theorem ps_expr (he : PE X e te) (hs : swapsWith e none pos.line X.env = pure false := by rfl) : PS X (.Expr e pos) (tDrop te) := by
  intro pins s σ H D I h
  exact wpAny_Expr_any (thn (he pins s σ H _ I h) fun v s1 ⟨x, H1, I1, r1, q1⟩ => ⟨σ, H1, I1, q1⟩) I.quiet hs
def tRet (te : TE) : TS := fun D σ H => te σ H D.rt
theorem ps_ret (he : PE X e te) : PS X (.Return (some e) pos) (tRet te) := by
  intro pins s σ H D I h
  exact wpAny_Return_some (thn (he pins s σ H _ I h) fun v s1 ⟨x, H1, I1, r1, q1⟩ => ⟨x, σ, H1, I1, r1, q1⟩)
def tRetN : TS := fun D _ H => D.rt .non H
def tIfS (c : TT) (t u : TS) : TS := fun D σ H => c σ H fun b H1 => if b = true then t D σ H1 else u D σ H1
theorem ps_if {c : Expr} {a b : List Stmt} {tc : TT} (hc : PT X c tc) (ha : PSs X a t) (hb : PSs X b u) : PS X (.If c a b pos) (tIfS tc t u) := by
  intro pins s σ H D I h
  refine wpAny_If (thn (hc pins s σ H _ I h) fun d s1 ⟨H1, I1, q1⟩ => ?_)
  cases d with
  | true => exact ha pins s1 σ H1 D I1 q1
  | false => exact hb pins s1 σ H1 D I1 q1
/-- code that the proof never comes to -/
def tNever : TS := fun _ _ _ => False
theorem pss_never {sts : List Stmt} : PSs X sts tNever := fun _ _ _ _ _ _ h => h.elim
end

/-! ### targets -/
abbrev TG := V → St → Hp → (St → Hp → Prop) → Prop
abbrev TGs := List V → St → Hp → (St → Hp → Prop) → Prop
def PG (X : Cx) (target : Expr) (t : TG) : Prop :=
  ∀ (pins : List (Addr × Obj)) (s : Shared) (σ : St) (H : Hp) (v : V) (u : Value) (Q : St → Hp → Prop), Inv X pins σ H s → RelV v u → t v σ H Q →
    wpAny (model X.prog X.w) X.A (assign target X.env u) (fun _ s' => ∃ σ' H', Inv X pins σ' H' s' ∧ Q σ' H') X.xe s
/-- several targets, one after another -/
def PGs (X : Cx) (ts : List Expr) (t : TGs) : Prop :=
  ∀ (pins : List (Addr × Obj)) (s : Shared) (σ : St) (H : Hp) (vs : List V) (us : List Value) (Q : St → Hp → Prop), Inv X pins σ H s → Vals vs us → t vs σ H Q →
    wpAny (model X.prog X.w) X.A (assignInOrder ((assignEach ts X.env).map (·.2)) us) (fun _ s' => ∃ σ' H', Inv X pins σ' H' s' ∧ Q σ' H') X.xe s
/-- o[i] = v, by values -/
abbrev TSet := V → V → V → Hp → (Hp → Prop) → Prop
def PSet (X : Cx) (t : TSet) : Prop :=
  ∀ (pins : List (Addr × Obj)) (s : Shared) (σ : St) (H : Hp) (o i v : V) (ov iv u : Value) (Q : Hp → Prop), Inv X pins σ H s → RelV o ov → RelV i iv → RelV v u → t o i v H Q →
    wpAny (model X.prog X.w) X.A (setItem ov iv u) (fun _ s' => ∃ H', Inv X pins σ H' s' ∧ Q H') X.xe s
/-- a op= b, by values -/
abbrev TIp := V → V → Hp → VK → Prop
def PIp (X : Cx) (op : Operator) (t : TIp) : Prop :=
  ∀ (pins : List (Addr × Obj)) (s : Shared) (σ : St) (H : Hp) (x y : V) (v u : Value) (Q : VK), Inv X pins σ H s → RelV x v → RelV y u → t x y H Q →
    wpAny (model X.prog X.w) X.A (inplaceOp op v u) (EP X pins σ Q) X.xe s
section
variable {X : Cx} {pos : Pos}
def gName (i : Nat) : TG := fun v σ H Q => Q (σ.set i (some v)) H
theorem pg_name {i : Nat} {x : Str} (hN : X.N.Nodup) (hi : X.N[i]? = some x) (hx : Loc X.env.scope x) (hf : X.fn x = true ∨ X.env.scope.names.lookup x = some .local := by first | exact .inl rfl | exact .inr rfl | assumption) : PG X (.Name x pos) (gName i) := by
  intro pins s σ H v u Q I r h
  exact wpAny_assign_Name (store_ok I hN hi hx r (fun s' I' => ⟨_, H, I', h⟩) hf)
def gNil : TGs := fun vs σ H Q => vs = [] ∧ Q σ H
def gCons (t : TG) (u : TGs) : TGs := fun vs σ H Q => ∃ v r, vs = v :: r ∧ t v σ H fun σ' H' => u r σ' H' Q
theorem pgs_nil : PGs X [] gNil := by
  intro pins s σ H vs us Q I r h
  obtain ⟨e, h⟩ := h
  subst e
  cases r
  exact assignInOrder_nil ⟨σ, H, I, h⟩
theorem pgs_cons {e : Expr} {es : List Expr} {t : TG} {u : TGs} (h1 : PG X e t) (h2 : PGs X es u)
    (hs : (assignEach (e :: es) X.env).map (·.2) = assign e X.env :: (assignEach es X.env).map (·.2) := by rfl) : PGs X (e :: es) (gCons t u) := by
  intro pins s σ H vs us Q I r h
  obtain ⟨v, vr, e1, h⟩ := h
  subst e1
  cases r with
  | cons r rr =>
    rw [hs]
    refine assignInOrder_cons (thn (h1 pins s σ H _ _ _ I r h) fun _ s1 ⟨σ1, H1, I1, q1⟩ => ?_)
    exact h2 pins s1 σ1 H1 _ _ Q I1 rr q1
/-- (a, b, ..) = a tuple of that length -/
def gTup (K : PySem.W.Frag) (n : Nat) (t : TGs) : TG := fun v σ H Q => ∃ a xs, v = .ref a ∧ SqT K H a xs ∧ xs.length = n ∧ t xs σ H Q
theorem pg_tup {es : List Expr} {k : Nat} {t : TGs} {n : Nat} (hc : X.calm = true) (h : PGs X es t)
    (hn : (assignEach es X.env).length = n := by rfl) (hst : (assignEach es X.env).findIdx? (·.1) = none := by rfl) : PG X (.Tuple es k pos) (gTup X.K n t) := by
  intro pins s σ H v u Q I r hw
  obtain ⟨a, xs, e1, hq, hl, hw⟩ := hw
  subst e1
  cases r
  obtain ⟨its, rv, ht, hz⟩ := I.tuple hq
  refine assign_Tuple_tuple (I.ok.hd hc) ht (by simp [hn, ← hl, rv.length]) hst fun h' hx => ?_
  have I1 : Inv X pins σ H { s with heap := h' } := I.kept (t' := s.toks) fun b o e => hx b o (Nat.ne_of_lt (Heap.lt_size e)) e
  exact h pins _ σ H xs _ Q I1 (by simpa using rv) hw
/-- o[i] = .. -/
def gSub (to ti : TE) (t : TSet) : TG := fun v σ H Q => to σ H fun o H1 => ti σ H1 fun i H2 => t o i v H2 fun H3 => Q σ H3
theorem pg_sub {o i : Expr} {to ti : TE} {t : TSet} (ho : PE X o to) (hi : PE X i ti) (hs : PSet X t)
    (ha : ∀ v, assign (.Subscript o i pos) X.env v = (do
      let ov ← holding [v] (eval o X.env)
      let iv ← holding [v, ov] (eval i X.env)
      standAt pos
      holding [v, ov, iv] (setItem ov iv v)
      release [v, ov, iv] []) := by intro _; rfl) : PG X (.Subscript o i pos) (gSub to ti t) := by
  intro pins s σ H v u Q I r h
  rw [ha]
  refine wpAny_bind (wpAny_holding (thn (ho pins s σ H _ I h) fun ov s1 ⟨x, H1, I1, r1, q1⟩ => ?_))
  refine wpAny_bind (wpAny_holding (thn (hi pins s1 σ H1 _ I1 q1) fun iv s2 ⟨y, H2, I2, r2, q2⟩ => ?_))
  refine wpAny_bind (wpAny_standAt (wpAny_bind (wpAny_holding (thn (hs pins s2 σ H2 x y v ov iv u _ I2 r1 r2 r q2) fun _ s3 ⟨H3, I3, q3⟩ => ?_))))
  exact wpAny_release ⟨σ, H3, I3, q3⟩
/-- target = value -/
def tAsg (te : TE) (g : TG) : TS := fun D σ H => te σ H fun x H1 => g x σ H1 D.nx
theorem ps_asg {tg e : Expr} {te : TE} {g : TG} (he : PE X e te) (hg : PG X tg g) (hs : swapsWithSole [tg] e pos.line X.env = pure false := by rfl) (hw : swappedStores [tg] e X.env = pure none := by rfl)
    (h1 : (assignEach [tg] X.env).map (·.2) = [assign tg X.env] := by rfl) : PS X (.Assign [tg] e pos) (tAsg te g) := by
  intro pins s σ H D I h
  refine wpAny_Assign_stores (thn (he pins s σ H _ I h) fun v s1 ⟨x, H1, I1, r1, q1⟩ => ?_) hs hw
  rw [h1]
  exact thn (hg pins s1 σ H1 x v _ I1 r1 q1) fun _ s2 q => q
/-- name = value -/
theorem ps_set {i : Nat} {x : Str} {e : Expr} {te : TE} {pos' : Pos} (hN : X.N.Nodup) (hi : X.N[i]? = some x) (hx : Loc X.env.scope x) (he : PE X e te) (hs : swapsWith e (some (.Name x pos')) pos.line X.env = pure false := by rfl) (hf : X.fn x = true ∨ X.env.scope.names.lookup x = some .local := by first | exact .inl rfl | exact .inr rfl | assumption) :
    PS X (.Assign [.Name x pos'] e pos) (tAsg te (gName i)) := by
  intro pins s σ H D I h
  refine wpAny_Assign_Name (thn (he pins s σ H _ I h) fun v s1 ⟨y, H1, I1, r1, q1⟩ => ?_) hs
  exact store_ok I1 hN hi hx r1 (fun s2 I2 => ⟨_, H1, I2, q1⟩) hf
/-- a, b = x, y with plain local names: stored from the right; the pair itself is not tracked (the opening rows as in PyProof/Rows/TupAssign.lean:23) -/
def tPar (i j : Nat) (ta : TA) : TS := fun D σ H => ta σ H fun vs H1 => ∃ v w, vs = [v, w] ∧ D.nx ((σ.set i (some v)).set j (some w)) H1
/-- name op= e -/
def tAug (i : Nat) (te : TE) (ti : TIp) : TS := fun D σ H => ∃ x, σ[i]? = some (some x) ∧ te σ H fun y H1 => ti x y H1 fun z H2 => D.nx (σ.set i (some z)) H2
theorem ps_aug {i : Nat} {x : Str} {e : Expr} {te : TE} {op : Operator} {ti : TIp} {pos' : Pos} (hN : X.N.Nodup) (hi : X.N[i]? = some x) (hx : Loc X.env.scope x) (he : PE X e te) (ho : PIp X op ti) (hf : X.fn x = true ∨ X.env.scope.names.lookup x = some .local := by first | exact .inl rfl | exact .inr rfl | assumption) :
    PS X (.AugAssign (.Name x pos') op e pos) (tAug i te ti) := by
  intro pins s σ H D I h
  obtain ⟨v, e1, h⟩ := h
  obtain ⟨m, hn, hl⟩ := I.loc
  have vis : Vis X.env.scope x := by rcases hx with k | k; exact .inl k; exact .inr (.inl k)
  obtain ⟨u, r, l⟩ := hl i x v hi e1 vis
  refine wpAny_AugAssign_Name ?_
  have go : wpAny (model X.prog X.w) X.A (eval e X.env) (fun w s₂ => wpAny (model X.prog X.w) X.A (inplaceOp op u w) (fun r s₃ => wpAny (model X.prog X.w) X.A (storeName X.env x r) (fun _ => SP X pins D .next) X.xe s₃) X.xe s₂) X.xe s := by
    refine thn (he pins s σ H _ I h) fun w s1 ⟨y, H1, I1, r1, q1⟩ => ?_
    refine thn (ho pins s1 σ H1 v y u w _ I1 r r1 q1) fun z s2 ⟨zv, H2, I2, r2, q2⟩ => ?_
    exact store_ok I2 hN hi hx r2 (fun s3 I3 => ⟨_, H2, I3, q2⟩) hf
  rcases l with ⟨hk, hm⟩ | ⟨hk, c, hc, hcell⟩
  · exact wpAny_loadName_local I.ok.kind hk hn hm go
  · rcases hk with hk | hk
    · exact wpAny_loadName_cell I.ok.kind hk hc hcell go
    · rcases hx with k | k
      · have : X.env.scope.names.lookup x = some .free := hk
        rw [k] at this; cases this
      · have : X.env.scope.names.lookup x = some .free := hk
        rw [k] at this; cases this
/-- o[i] op= e -/
def tAugS (to ti te : TE) (tget : V → V → Hp → VK → Prop) (tip : TIp) (tset : TSet) : TS := fun D σ H => to σ H fun o H1 => ti σ H1 fun i H2 => tget o i H2 fun x H3 => te σ H3 fun y H4 => tip x y H4 fun z H5 => tset o i z H5 fun H6 => D.nx σ H6
/-- o[i], by values -/
def PGet (X : Cx) (t : V → V → Hp → VK → Prop) : Prop :=
  ∀ (pins : List (Addr × Obj)) (s : Shared) (σ : St) (H : Hp) (o i : V) (ov iv : Value) (Q : VK), Inv X pins σ H s → RelV o ov → RelV i iv → t o i H Q →
    wpAny (model X.prog X.w) X.A (getItem ov iv) (EP X pins σ Q) X.xe s
/-- ints -/
def ipI (f : Int → Int → Int) : TIp := fun x y H Q => ∃ i j, x = .int i ∧ y = .int j ∧ Q (.int (f i j)) H
theorem ip_add : PIp X .Add (ipI fun i j => i + j) := by
  intro pins s σ H x y v u Q I r1 r2 h
  obtain ⟨i, j, e1, e2, q⟩ := h
  subst e1; subst e2
  obtain ⟨t, rfl⟩ := r1
  obtain ⟨t', rfl⟩ := r2
  exact iadd_int ⟨.int _, H, I.tok _, ⟨_, rfl⟩, q⟩
theorem ip_sub : PIp X .Sub (ipI fun i j => i - j) := by
  intro pins s σ H x y v u Q I r1 r2 h
  obtain ⟨i, j, e1, e2, q⟩ := h
  subst e1; subst e2
  obtain ⟨t, rfl⟩ := r1
  obtain ⟨t', rfl⟩ := r2
  exact isub_int ⟨.int _, H, I.tok _, ⟨_, rfl⟩, q⟩
end

/-! ### while -/
section
variable {X : Cx} {pos : Pos}
/-- the invariant W with its measure -/
def tWhile (c : TT) (tb : TS) : TS := fun D σ H => ∃ W : Nat → St → Hp → Prop, (∃ m, W m σ H) ∧ ∀ m σ H, W m σ H →
  c σ H fun b H1 => if b = true then ∃ N : St → Hp → Prop, (∀ σ' H', N σ' H' → ∃ m', m' < m ∧ W m' σ' H') ∧ tb { D with nx := N, ct := N, bk := D.nx } σ H1 else D.nx σ H1
theorem ps_while {c : Expr} {body : List Stmt} {tc : TT} {tb : TS} (hp : PassesOwn (model X.prog X.w) X.A X.env X.xe) (hc : PT X c tc) (hb : PSs X body tb) : PS X (.While c body [] pos) (tWhile tc tb) := by
  intro pins s σ H D I h
  obtain ⟨W, ⟨m0, w0⟩, turn⟩ := h
  refine wpAny_While (codeAny_whileLoop (fun n s' => ∃ σ' H', Inv X pins σ' H' s' ∧ W n σ' H') ?_ m0 ⟨σ, H, I, w0⟩)
  rintro n s1 ⟨σ1, H1, I1, w1⟩
  refine wpAny_passesOwn hp (thn (hc pins s1 σ1 H1 _ I1 (turn n σ1 H1 w1)) fun b s2 ⟨H2, I2, q2⟩ => ?_)
  cases b with
  | true =>
    obtain ⟨N, hN, q2⟩ := q2
    rw [if_pos rfl]
    refine wpAny_passesOwn hp (thn (hb pins s2 σ1 H2 _ I2 q2) fun f s3 q3 => ?_)
    cases f with
    | next =>
      obtain ⟨σ3, H3, I3, n3⟩ := q3
      obtain ⟨m', hm, w3⟩ := hN σ3 H3 n3
      exact ⟨m', hm, σ3, H3, I3, w3⟩
    | cont =>
      obtain ⟨σ3, H3, I3, n3⟩ := q3
      obtain ⟨m', hm, w3⟩ := hN σ3 H3 n3
      exact ⟨m', hm, σ3, H3, I3, w3⟩
    | brk => exact q3
    | ret v => exact q3
  | false =>
    rw [if_neg Bool.false_ne_true]
    exact wpAny_execs_nil ⟨σ1, H2, I2, q2⟩
end

/-! ### what a loop or a comprehension walks -/
/-- at turn i: it yields x (the heap may grow), or it stops -/
structure It where
  go : Nat → Hp → Prop
  yld : Nat → Hp → V → Hp → Prop
  stop : Nat → Hp → Prop
/-- the iterator's own objects may turn: they are not the frame's, not pinned, younger than the entry (or a comprehension's own) -/
def FpOk (X : Cx) (pins : List (Addr × Obj)) (H : Hp) (b : Addr) : Prop :=
  H b = none ∧ b ≠ X.env.locals ∧ b ∉ X.fs ∧ (b ∈ X.ex ∨ X.s₀.heap.objs.size ≤ b) ∧ (∀ x c, X.env.cells.lookup x = some c → c ≠ b) ∧ ∀ p ∈ X.pn ++ pins, p.1 ≠ b
theorem Inv.fpOk {X : Cx} {pins : List (Addr × Obj)} {σ : St} {H H' : Hp} {s : Shared} {b : Addr} (I : Inv X pins σ H s) (hb : s.heap.objs.size ≤ b) (hn : H' b = none) : FpOk X pins H' b := by
  refine ⟨hn, Nat.ne_of_gt (Nat.lt_of_lt_of_le I.lt hb), I.nofs hb, .inr (Nat.le_trans I.sz hb), fun x c e z => ?_, fun p hp z => ?_⟩
  · obtain ⟨v, q⟩ := I.cell x c e
    exact absurd (Nat.lt_of_lt_of_le q.lt (by rw [z]; exact hb)) (Nat.lt_irrefl _)
  · exact absurd (Nat.lt_of_lt_of_le (Heap.lt_size (I.pin p hp).1) (by rw [z]; exact hb)) (Nat.lt_irrefl _)
structure Turn (P : Program) (w : World) (K : PySem.W.Frag) (tg : Expr) (J : It) (fp : List Addr) (it : Addr) (tn : Nat → Heap → Prop) : Prop where
  mem : it ∈ fp
  obj : ∀ i h, tn i h → ∀ b ∈ fp, ∃ o, h.get? b = some o ∧ ∀ v, o.data ≠ .cell v
  keep : ∀ i h h', tn i h → (∀ b ∈ fp, ∀ o, h.get? b = some o → h'.get? b = some o) → tn i h'
  item : ∀ (X : Cx), X.prog = P → X.w = w → X.K = K → X.calm = true → ∀ (i : Nat) (pins : List (Addr × Obj)) (s : Shared) (σ : St) (H : Hp) (E : Value → Shared → Prop), Inv X pins σ H s → (∀ b ∈ fp, FpOk X pins H b) → tn i s.heap → J.go i H →
    wpAny (model P w) X.A (pyNext (.ref it)) (fun r s1 => ∃ u, r = some u ∧
      wpAny (model P w) X.A (letOwnedTupleGo tg (.ref it) u) (fun _ s2 => ∃ x H', Inv X pins σ H' s2 ∧ RelV x u ∧ J.yld i H x H' ∧ tn (i + 1) s2.heap ∧ ∀ b ∈ fp, H' b = none) E s1) E s
  done : ∀ (X : Cx), X.prog = P → X.w = w → X.K = K → X.calm = true → ∀ (i : Nat) (pins : List (Addr × Obj)) (s : Shared) (σ : St) (H : Hp) (E : Value → Shared → Prop), Inv X pins σ H s → (∀ b ∈ fp, FpOk X pins H b) → tn i s.heap → J.stop i H →
    wpAny (model P w) X.A (pyNext (.ref it)) (fun r s1 => r = none ∧ Inv X pins σ H s1) E s
  self : ∀ (A : Around) (i : Nat) (s : Shared) (Q : Value → Shared → Prop) (E : Value → Shared → Prop), tn i s.heap → Q (.ref it) s → wpAny (model P w) A (pyIter (.ref it)) Q E s
abbrev TI := St → Hp → (It → Hp → Prop) → Prop
/-- an iterator has come -/
def PIE (X : Cx) (pins : List (Addr × Obj)) (σ : St) (tg : Expr) (R : It → Hp → Prop) (itv : Value) (s2 : Shared) : Prop :=
  ∃ (it : Addr) (fp : List Addr) (tn : Nat → Heap → Prop) (J : It) (H' : Hp), itv = .ref it ∧ Inv X pins σ H' s2 ∧ Turn X.prog X.w X.K tg J fp it tn ∧ tn 0 s2.heap ∧ (∀ b ∈ fp, FpOk X pins H' b) ∧ R J H'
def PI (X : Cx) (tg iter : Expr) (wi : TI) : Prop :=
  ∀ (pins : List (Addr × Obj)) (s : Shared) (σ : St) (H : Hp) (R : It → Hp → Prop), Inv X pins σ H s → wi σ H R →
    wpAny (model X.prog X.w) X.A (eval iter X.env) (fun v s1 => wpAny (model X.prog X.w) X.A (pyIter v) (PIE X pins σ tg R) X.xe s1) X.xe s

/-- the step ahead of the store is nothing for an iterator that keeps no tuple -/
theorem go_of {M : Model} {A : Around} {E : Value → Shared → Prop} {s : Shared} {tg : Expr} {it : Addr} {u : Value} {o : Obj} {n : String} {vs : Array Value} {Q : Unit → Shared → Prop} (ho : s.heap.get? it = some o) (hc : o.cls = .type n) (hd : o.data = .fields vs)
    (hn : ["enumerate", "zip", "dict_itemiterator", "dict_reverseitemiterator", "odict_iterator", "itertools.zip_longest", "itertools.pairwise"].contains n = false) (hQ : Q () s) : wpAny M A (letOwnedTupleGo tg (.ref it) u) Q E s := by
  unfold letOwnedTupleGo
  cases tg <;> first
    | exact wpAny_pure hQ
    | (cases u <;> first
        | exact wpAny_pure hQ
        | (refine wpAny_bind (wpAny_load ho ?_)
           rw [hc, hd]
           show wpAny M A (if (["enumerate", "zip", "dict_itemiterator", "dict_reverseitemiterator", "odict_iterator", "itertools.zip_longest", "itertools.pairwise"].contains n && vs[0]? == some (rawInt _)) = true then _ else _) Q E s
           rw [if_neg (by intro h; rw [hn, Bool.false_and] at h; cases h)]
           exact wpAny_pure hQ))

/-- the list at a, as it stands at each turn (a loop may append to it) -/
def Itl (K : PySem.W.Frag) (a : Addr) : It :=
  ⟨fun i H => ∃ xs x, SqL K H a xs ∧ xs[i]? = some x, fun i H x H' => H' = H ∧ ∀ xs, SqL K H a xs → xs[i]? = some x, fun i H => ∃ xs, SqL K H a xs ∧ xs.length ≤ i⟩
def Itt (K : PySem.W.Frag) (a : Addr) : It :=
  ⟨fun i H => ∃ xs x, SqT K H a xs ∧ xs[i]? = some x, fun i H x H' => H' = H ∧ ∀ xs, SqT K H a xs → xs[i]? = some x, fun i H => ∃ xs, SqT K H a xs ∧ xs.length ≤ i⟩
/-- lo, lo + 1, .. (n of them) -/
def Itr (lo : Int) (n : Nat) : It := ⟨fun i _ => i < n, fun i H x H' => H' = H ∧ x = .int (lo + i), fun i _ => n ≤ i⟩
theorem turn_list {P : Program} {w : World} {K : PySem.W.Frag} {tg : Expr} (a it : Addr) : Turn P w K tg (Itl K a) [it] it (fun i h => h.IsListIter it a i) where
  mem := by simp
  obj := fun i h st b hb => by
    have e : b = it := by simpa using hb
    subst e
    obtain ⟨o, e, c, d⟩ := st
    exact ⟨o, e, fun v z => by rw [d] at z; cases z⟩
  keep := fun i h h' st k => st.at fun o e => k it (by simp) o e
  item := by
    intro X hP hw hK hc i pins s σ H E I hf st hg
    subst hP hw hK
    obtain ⟨xs, x, hq, hx⟩ := hg
    obtain ⟨its, rv, p, hz⟩ := I.list hq
    obtain ⟨u, hu, ru⟩ := rv.get hx
    obtain ⟨f0, f1, f2, f3, f4, f5⟩ := hf it (by simp)
    refine wpAny_pyNext_list_item st p.isList (x := u) (by simpa using hu) fun h' st' sb => ?_
    have I1 : Inv X pins σ H { s with heap := h' } := I.turned (t' := s.toks) (fun b o hb e => (sb.2 b hb).trans e) f0 f1 f3 f4 f5
    obtain ⟨o, e, c, d⟩ := id st'
    exact ⟨u, rfl, go_of (s := { s with heap := h' }) e c d (by decide) ⟨x, H, I1, ru, ⟨rfl, fun ys hy => by rw [I.list_inj hy hq]; exact hx⟩, st', fun b hb => (hf b hb).1⟩⟩
  done := by
    intro X hP hw hK hc i pins s σ H E I hf st hg
    subst hP hw hK
    obtain ⟨xs, hq, hx⟩ := hg
    obtain ⟨its, rv, p, hz⟩ := I.list hq
    obtain ⟨f0, f1, f2, f3, f4, f5⟩ := hf it (by simp)
    have hl := rv.length
    exact wpAny_pyNext_list_end (I.ok.hd hc) st p.isList (by simp; omega) fun h' eb => ⟨rfl, I.turned (t' := s.toks) (fun b o hb e => eb b o hb e) f0 f1 f3 f4 f5⟩
  self := fun _ _ _ _ _ st h => wpAny_pyIter_listiter st h
theorem turn_range {P : Program} {w : World} {K : PySem.W.Frag} {tg : Expr} (it : Addr) (lo : Int) (n : Nat) : Turn P w K tg (Itr lo n) [it] it (fun i h => IsRangeIter h it (lo + (i : Nat) * 1) ((n : Int) - (i : Nat)) 1) where
  mem := by simp
  obj := fun i h st b hb => by
    have e : b = it := by simpa using hb
    subst e
    exact ⟨_, st, fun v z => by
      have z' : Data.fields _ = Data.cell v := z
      cases z'⟩
  keep := fun i h h' st k => k it (by simp) _ st
  item := by
    intro X hP hw hK hc i pins s σ H E I hf st hg
    subst hP hw hK
    obtain ⟨f0, f1, f2, f3, f4, f5⟩ := hf it (by simp)
    have W := Walks.range (prog := X.prog) (w := X.w) (I.ok.hd hc) it lo 1 n
    refine W.item i s _ _ hg st fun v h' tk hv st' kk => ?_
    obtain ⟨t, rfl⟩ := hv
    have I1 : Inv X pins σ H { s with heap := h', toks := tk } := I.turned (fun b o hb e => kk b o (by simpa using hb) e) f0 f1 f3 f4 f5
    refine ⟨_, rfl, go_of (s := { s with heap := h', toks := tk }) (n := "range_iterator") st' rfl rfl (by decide) ⟨.int (lo + i), H, I1, ⟨t, ?_⟩, ⟨rfl, rfl⟩, st', fun b hb => (hf b hb).1⟩⟩
    rw [Int.mul_one]
  done := by
    intro X hP hw hK hc i pins s σ H E I hf st hg
    subst hP hw hK
    obtain ⟨f0, f1, f2, f3, f4, f5⟩ := hf it (by simp)
    exact wpAny_pyNext_range_end (I.ok.hd hc) st (by have : n ≤ i := hg; omega) fun h' eb => ⟨rfl, I.turned (t' := s.toks) (fun b o hb e => eb b o hb e) f0 f1 f3 f4 f5⟩
  self := fun _ _ _ _ _ st h => wpAny_pyIter_rangeiter st h
end L2

namespace L2
open PySem PySem.Spec PyProof.Rows
section
variable {X : Cx} {tg : Expr}
def iList (K : PySem.W.Frag) (tl : TE) : TI := fun σ H R => tl σ H fun x H1 => ∃ a, x = .ref a ∧ (∃ xs, SqL K H1 a xs) ∧ R (Itl K a) H1
def iTup (K : PySem.W.Frag) (tl : TE) : TI := fun σ H R => tl σ H fun x H1 => ∃ a, x = .ref a ∧ (∃ xs, SqT K H1 a xs) ∧ R (Itt K a) H1
theorem pi_list {l : Expr} {tl : TE} (hl : PE X l tl) : PI X tg l (iList X.K tl) := by
  intro pins s σ H R I h
  refine thn (hl pins s σ H _ I h) fun v s1 ⟨x, H1, I1, r1, q1⟩ => ?_
  obtain ⟨a, e, ⟨xs, hq⟩, q⟩ := q1
  subst e
  cases r1
  obtain ⟨its, rv, p, hz⟩ := I1.list hq
  refine wpAny_pyIter_list p.isList ?_
  refine ⟨s1.heap.objs.size, [s1.heap.objs.size], _, _, H1, rfl, I1.kept (t' := s1.toks) fun b o e => Heap.get?_push_of_some _ e, turn_list a _, ⟨_, Heap.get?_push_size _ rfl, rfl, rfl⟩, fun b hb => ?_, q⟩
  have e : b = s1.heap.objs.size := by simpa using hb
  subst e
  exact I1.fpOk (Nat.le_refl _) (I1.hok.fresh (Nat.le_refl _))
/-- a range object just made, walked -/
theorem range_it {pins : List (Addr × Obj)} {σ : St} {H : Hp} {s : Shared} {R : It → Hp → Prop} {E : Value → Shared → Prop} {lo hi : Int} {t u v : Tok} {tk : Nat} (I : Inv X pins σ H s) (h1 : -(2 ^ 62) ≤ lo) (h2 : lo < 2 ^ 62) (h3 : -(2 ^ 62) ≤ hi) (h4 : hi < 2 ^ 62)
    (q : R (Itr lo (hi - lo).toNat) H) : wpAny (model X.prog X.w) X.A (pyIter (.ref s.heap.objs.size)) (PIE X pins σ tg R) E { s with heap := s.heap.push { cls := .type "range", data := .fields #[.int lo t, .int hi u, .int 1 v] }, toks := tk } := by
  refine wpAny_pyIter_range (IsRange.new ..) (small_one h1 h2 h3 h4) ?_
  have I1 : Inv X pins σ H { s with heap := s.heap.push { cls := .type "range", data := .fields #[.int lo t, .int hi u, .int 1 v] }, toks := tk } := I.kept fun b o e => Heap.get?_push_of_some _ e
  refine ⟨(s.heap.push { cls := .type "range", data := .fields #[.int lo t, .int hi u, .int 1 v] }).objs.size, [(s.heap.push { cls := .type "range", data := .fields #[.int lo t, .int hi u, .int 1 v] }).objs.size], _, _, H, rfl,
    I1.kept (t' := tk) fun b o e => Heap.get?_push_of_some _ e, turn_range _ lo (hi - lo).toNat, ?_, fun b hb => ?_, q⟩
  · have e1 : lo + ((0 : Nat) : Int) * 1 = lo := by simp
    have e2 : (((hi - lo).toNat : Nat) : Int) - ((0 : Nat) : Int) = Builtin.Range.rangeSize lo hi 1 := by rw [rangeSize_one]; split <;> omega
    show IsRangeIter _ _ (lo + ((0 : Nat) : Int) * 1) ((((hi - lo).toNat : Nat) : Int) - ((0 : Nat) : Int)) 1
    rw [e1, e2]
    exact Heap.get?_push_size _ rfl
  · have e : b = (s.heap.push { cls := .type "range", data := .fields #[.int lo t, .int hi u, .int 1 v] }).objs.size := by simpa using hb
    subst e
    exact I1.fpOk (Nat.le_refl _) (I1.hok.fresh (Nat.le_refl _))
def iRng1 (ta : TA) : TI := fun σ H R => ta σ H fun vs H1 => ∃ j : Int, vs = [.int j] ∧ -(2 ^ 62) ≤ j ∧ j < 2 ^ 62 ∧ R (Itr 0 j.toNat) H1
def iRng2 (ta : TA) : TI := fun σ H R => ta σ H fun vs H1 => ∃ i j : Int, vs = [.int i, .int j] ∧ (-(2 ^ 62) ≤ i ∧ i < 2 ^ 62 ∧ -(2 ^ 62) ≤ j ∧ j < 2 ^ 62) ∧ R (Itr i (j - i).toNat) H1
theorem pi_range1 {a : Expr} {ta : TA} {p pos : Pos} (hg : Gl X "range") (hm : X.mg "range" = none) (ha : PA X [a] ta) (hs : starEach [a] X.env = [(false, eval a X.env)] := by rfl) : PI X tg (.Call (.Name "range" p) [a] [] pos) (iRng1 ta) := by
  intro pins s σ H R I h
  refine Call_ (ld_blt I hg hm boot_range (PyProof.Rows.callWith_type1 (thn (ha pos pins s σ H _ I h) fun us s1 ⟨vs, H1, I1, r1, q1⟩ => ?_) hs rfl))
  obtain ⟨j, e, q1, q2, q⟩ := q1
  subst e
  cases r1 with
  | cons r rr =>
    cases rr
    obtain ⟨t, rfl⟩ := r
    exact call_range_1 (range_it I1 (by omega) (by omega) q1 q2 (by simpa using q))
theorem pi_range2 {a b : Expr} {ta : TA} {p pos : Pos} (hg : Gl X "range") (hm : X.mg "range" = none) (ha : PA X [a, b] ta) (hs : starEach [a, b] X.env = [(false, eval a X.env), (false, eval b X.env)] := by rfl) (hs2 : starEach [b] X.env = [(false, eval b X.env)] := by rfl) :
    PI X tg (.Call (.Name "range" p) [a, b] [] pos) (iRng2 ta) := by
  intro pins s σ H R I h
  refine Call_ (ld_blt I hg hm boot_range (PyProof.Rows.callWith_type1 (thn (ha pos pins s σ H _ I h) fun us s1 ⟨vs, H1, I1, r1, q1⟩ => ?_) (by rw [hs, hs2]) (by rw [hs2]; rfl)))
  obtain ⟨i, j, e, ⟨q1, q2, q3, q4⟩, q⟩ := q1
  subst e
  cases r1 with
  | cons r rr =>
    cases rr with
    | cons r' rr =>
      cases rr
      obtain ⟨t, rfl⟩ := r
      obtain ⟨t', rfl⟩ := r'
      exact call_range_2 (range_it I1 q1 q2 q3 q4 q)

/-! ### for -/
/-- W: the invariant by the turn and a measure; N: what the body is to reach -/
def tFor (wi : TI) (g : TG) (tb : TS) : TS := fun D σ H => wi σ H fun J H1 => ∃ W : Nat → Nat → St → Hp → Prop, (∃ m, W 0 m σ H1) ∧ ∀ i m σ H, W i m σ H →
  (J.stop i H ∧ D.nx σ H) ∨ (J.go i H ∧ ∃ N : St → Hp → Prop, (∀ σ' H', N σ' H' → ∃ m', m' < m ∧ W (i + 1) m' σ' H') ∧ ∀ x H', J.yld i H x H' → g x σ H' fun σ2 H2 => tb { D with nx := N, ct := N, bk := D.nx } σ2 H2)
/-- the records at fp as they stand -/
def pinsAt (fp : List Addr) (h : Heap) : List (Addr × Obj) := fp.filterMap fun b => (h.get? b).map fun o => (b, o)
theorem mem_pinsAt {fp : List Addr} {h : Heap} {b : Addr} {o : Obj} (hb : b ∈ fp) (e : h.get? b = some o) : (b, o) ∈ pinsAt fp h := List.mem_filterMap.mpr ⟨b, hb, by rw [e]; rfl⟩
theorem of_pinsAt {fp : List Addr} {h : Heap} {p : Addr × Obj} (hp : p ∈ pinsAt fp h) : p.1 ∈ fp ∧ h.get? p.1 = some p.2 := by
  obtain ⟨b, hb, e⟩ := List.mem_filterMap.mp hp
  cases q : h.get? b with
  | none => rw [q] at e; cases e
  | some o =>
    rw [q] at e
    have e' : (b, o) = p := Option.some.inj e
    subst e'
    exact ⟨hb, q⟩
theorem Inv.pinned {pins : List (Addr × Obj)} {σ : St} {H : Hp} {s : Shared} {fp : List Addr} (I : Inv X pins σ H s) (hf : ∀ b ∈ fp, FpOk X pins H b) (ho : ∀ b ∈ fp, ∃ o, s.heap.get? b = some o ∧ ∀ v, o.data ≠ .cell v) : Inv X (pins ++ pinsAt fp s.heap) σ H s :=
  I.pins_of fun p hp => (List.mem_append.mp hp).elim (fun z => I.pin p (List.mem_append_right _ z)) fun z => by
    obtain ⟨hb, e⟩ := of_pinsAt z
    obtain ⟨f0, f1, f2, _⟩ := hf p.1 hb
    obtain ⟨o, e', d⟩ := ho p.1 hb
    rw [e] at e'; cases e'
    exact ⟨e, f0, f1, f2, d⟩
theorem Inv.unpinned {pins pl : List (Addr × Obj)} {σ : St} {H : Hp} {s : Shared} (I : Inv X (pins ++ pl) σ H s) : Inv X pins σ H s := I.pins_of fun p hp => I.pin p (List.mem_append_right _ (List.mem_append_left _ hp))
theorem ps_for {iter : Expr} {body : List Stmt} {wi : TI} {g : TG} {tb : TS} {pos : Pos} (hp : PassesOwn (model X.prog X.w) X.A X.env X.xe) (hc : X.calm = true) (hi : PI X tg iter wi) (hg : PG X tg g) (hb : PSs X body tb)
    (hs : ∀ x, foldedSetIterable iter X.env x = pure x := by intro _; rfl) : PS X (.For tg iter body [] pos) (tFor wi g tb) := by
  intro pins s σ H D I h
  refine wpAny_For (thn (hi pins s σ H _ I h) fun v s1 h1 => thn h1 fun itv s2 h2 => ?_) hs
  obtain ⟨it, fp, tn, J, H2, e, I2, T, st2, f2, W, ⟨m0, w0⟩, turn⟩ := h2
  subst e
  -- what stays true of the iterator's objects through the loop
  have stat : ∀ {H' : Hp}, (∀ b ∈ fp, H' b = none) → ∀ b ∈ fp, FpOk X pins H' b := fun hn b hb => ⟨hn b hb, (f2 b hb).2⟩
  refine codeAny_forLoop_any (fun n s' => ∃ i σ' H', Inv X pins σ' H' s' ∧ tn i s'.heap ∧ (∀ b ∈ fp, H' b = none) ∧ W i n σ' H') ?_ m0 ⟨0, σ, H2, I2, st2, fun b hb => (f2 b hb).1, w0⟩
  rintro n s3 ⟨i, σ3, H3, I3, st3, fr3, w3⟩
  rcases turn i n σ3 H3 w3 with ⟨stop, qn⟩ | ⟨go, N, hN, step⟩
  · refine wpAny_passesOwn hp (thn (T.done X rfl rfl rfl hc i pins s3 σ3 H3 X.xe I3 (stat fr3) st3 stop) fun r s4 ⟨hr, I4⟩ => ?_)
    subst hr
    exact wpAny_execs_nil ⟨σ3, H3, I4, qn⟩
  · refine wpAny_passesOwn hp (thn (T.item X rfl rfl rfl hc i pins s3 σ3 H3 X.xe I3 (stat fr3) st3 go) fun r s4 ⟨u, hr, h4⟩ => ?_)
    subst hr
    refine wpAny_passesOwn hp (thn h4 fun _ s5 ⟨x, H5, I5, r5, y5, st5, fr5⟩ => ?_)
    have I5' := I5.pinned (stat fr5) (T.obj _ _ st5)
    refine wpAny_passesOwn hp (thn (hg _ s5 σ3 H5 x u _ I5' r5 (step x H5 y5)) fun _ s6 ⟨σ6, H6, I6, q6⟩ => ?_)
    refine wpAny_passesOwn hp (thn (hb _ s6 σ6 H6 _ I6 q6) fun f s7 q7 => ?_)
    have again : ∀ {σ7 : St} {H7 : Hp}, Inv X (pins ++ pinsAt fp s5.heap) σ7 H7 s7 → N σ7 H7 → ∃ m, m < n ∧ ∃ i σ' H', Inv X pins σ' H' s7 ∧ tn i s7.heap ∧ (∀ b ∈ fp, H' b = none) ∧ W i m σ' H' := fun {σ7 H7} I7 n7 => by
      obtain ⟨m', hm, w7⟩ := hN σ7 H7 n7
      refine ⟨m', hm, i + 1, σ7, H7, I7.unpinned, T.keep _ _ _ st5 fun b hb o e => (I7.pin (b, o) (List.mem_append_right _ (List.mem_append_right _ (mem_pinsAt hb e)))).1, fun b hb => ?_, w7⟩
      obtain ⟨o, e, d⟩ := T.obj _ _ st5 b hb
      exact (I7.pin (b, o) (List.mem_append_right _ (List.mem_append_right _ (mem_pinsAt hb e)))).2.1
    cases f with
    | next => obtain ⟨σ7, H7, I7, n7⟩ := q7; exact again I7 n7
    | cont => obtain ⟨σ7, H7, I7, n7⟩ := q7; exact again I7 n7
    | brk => obtain ⟨σ7, H7, I7, q7⟩ := q7; exact ⟨σ7, H7, I7.unpinned, q7⟩
    | ret v => obtain ⟨x7, σ7, H7, I7, r7, q7⟩ := q7; exact ⟨x7, σ7, H7, I7.unpinned, r7, q7⟩
end

/-! ### the forms one uses -/
/-- over a list that the body leaves as it is -/
theorem for_list {K : PySem.W.Frag} {a : Addr} {xs : List V} {g : TG} {tb : TS} {D : Ends} {σ : St} {H : Hp} (Pv : Nat → St → Hp → Prop) (h0 : Pv 0 σ H) (hl : ∀ i σ H, i ≤ xs.length → Pv i σ H → SqL K H a xs)
    (hs : ∀ i x σ H, xs[i]? = some x → Pv i σ H → g x σ H fun σ2 H2 => tb { D with nx := Pv (i + 1), ct := Pv (i + 1), bk := D.nx } σ2 H2) (hd : ∀ σ H, Pv xs.length σ H → D.nx σ H) :
    ∃ W : Nat → Nat → St → Hp → Prop, (∃ m, W 0 m σ H) ∧ ∀ i m σ H, W i m σ H →
      ((Itl K a).stop i H ∧ D.nx σ H) ∨ ((Itl K a).go i H ∧ ∃ N : St → Hp → Prop, (∀ σ' H', N σ' H' → ∃ m', m' < m ∧ W (i + 1) m' σ' H') ∧ ∀ x H', (Itl K a).yld i H x H' → g x σ H' fun σ2 H2 => tb { D with nx := N, ct := N, bk := D.nx } σ2 H2) := by
  refine ⟨fun i m σ H => m = xs.length - i ∧ i ≤ xs.length ∧ Pv i σ H, ⟨xs.length, by simp, Nat.zero_le _, h0⟩, ?_⟩
  rintro i m σ H ⟨rfl, hi, p⟩
  have q := hl i σ H hi p
  by_cases hlt : i < xs.length
  · refine .inr ⟨⟨xs, xs[i], q, by simp [hlt]⟩, Pv (i + 1), fun σ' H' p' => ⟨xs.length - (i + 1), by omega, rfl, hlt, p'⟩, fun x H' y => ?_⟩
    obtain ⟨e, y⟩ := y
    subst e
    exact hs i x σ _ (y xs q) p
  · have e : i = xs.length := by omega
    subst e
    exact .inl ⟨⟨xs, q, Nat.le_refl _⟩, hd σ H p⟩
theorem for_range {lo : Int} {n : Nat} {g : TG} {tb : TS} {D : Ends} {σ : St} {H : Hp} (Pv : Nat → St → Hp → Prop) (h0 : Pv 0 σ H)
    (hs : ∀ i σ H, i < n → Pv i σ H → g (.int (lo + i)) σ H fun σ2 H2 => tb { D with nx := Pv (i + 1), ct := Pv (i + 1), bk := D.nx } σ2 H2) (hd : ∀ σ H, Pv n σ H → D.nx σ H) :
    ∃ W : Nat → Nat → St → Hp → Prop, (∃ m, W 0 m σ H) ∧ ∀ i m σ H, W i m σ H →
      ((Itr lo n).stop i H ∧ D.nx σ H) ∨ ((Itr lo n).go i H ∧ ∃ N : St → Hp → Prop, (∀ σ' H', N σ' H' → ∃ m', m' < m ∧ W (i + 1) m' σ' H') ∧ ∀ x H', (Itr lo n).yld i H x H' → g x σ H' fun σ2 H2 => tb { D with nx := N, ct := N, bk := D.nx } σ2 H2) := by
  refine ⟨fun i m σ H => m = n - i ∧ i ≤ n ∧ Pv i σ H, ⟨n, by simp, Nat.zero_le _, h0⟩, ?_⟩
  rintro i m σ H ⟨rfl, hi, p⟩
  by_cases hlt : i < n
  · refine .inr ⟨hlt, Pv (i + 1), fun σ' H' p' => ⟨n - (i + 1), by omega, rfl, hlt, p'⟩, fun x H' y => ?_⟩
    obtain ⟨e, y⟩ := y
    subst e y
    exact hs i σ _ hlt p
  · have e : i = n := by omega
    subst e
    exact .inl ⟨Nat.le_refl _, hd σ H p⟩
end L2

namespace L2
open PySem PySem.Spec PyProof.Rows

abbrev R2 := V → V → Hp → VK → Prop
/-- a two-place operation on values: f is binaryOp op, inplaceOp op or compareOp op -/
def OpR (X : Cx) (f : Value → Value → Sem Value) (r : R2) : Prop :=
  ∀ (pins : List (Addr × Obj)) (s : Shared) (σ : St) (H : Hp) (x y : V) (v u : Value) (Q : VK), Inv X pins σ H s → RelV x v → RelV y u → r x y H Q →
    wpAny (model X.prog X.w) X.A (f v u) (EP X pins σ Q) X.xe s
/-- a one-place operation -/
def UnR (X : Cx) (f : Value → Sem Value) (r : V → Hp → VK → Prop) : Prop :=
  ∀ (pins : List (Addr × Obj)) (s : Shared) (σ : St) (H : Hp) (x : V) (v : Value) (Q : VK), Inv X pins σ H s → RelV x v → r x H Q →
    wpAny (model X.prog X.w) X.A (f v) (EP X pins σ Q) X.xe s
/-- a call of a value that is known (a builtin, a type) with values -/
def CallR (X : Cx) (f : Value) (r : List V → Hp → VK → Prop) : Prop :=
  ∀ (pins : List (Addr × Obj)) (s : Shared) (σ : St) (H : Hp) (xs : List V) (us : List Value) (Q : VK), Inv X pins σ H s → Vals xs us → r xs H Q →
    wpAny (model X.prog X.w) X.A (call f us) (EP X pins σ Q) X.xe s
/-- a value's truth -/
def TruR (X : Cx) (r : V → Hp → (Bool → Hp → Prop) → Prop) : Prop :=
  ∀ (pins : List (Addr × Obj)) (s : Shared) (σ : St) (H : Hp) (x : V) (v : Value) (Q : Bool → Hp → Prop), Inv X pins σ H s → RelV x v → r x H Q →
    wpAny (model X.prog X.w) X.A (truthy v) (TP X pins σ Q) X.xe s

def tOp (r : R2) (ta tb : TE) : TE := fun σ H Q => ta σ H fun x H1 => tb σ H1 fun y H2 => r x y H2 Q
def tUn (r : V → Hp → VK → Prop) (ta : TE) : TE := fun σ H Q => ta σ H fun x H1 => r x H1 Q
/-- ints in, under C, and a value out -/
def rI (C : Int → Int → Prop) (g : Int → Int → V) : R2 := fun x y H Q => ∃ i j, x = .int i ∧ y = .int j ∧ C i j ∧ Q (g i j) H
def rI0 (g : Int → Int → V) : R2 := fun x y H Q => ∃ i j, x = .int i ∧ y = .int j ∧ Q (g i j) H
def rU (g : Int → V) : V → Hp → VK → Prop := fun x H Q => ∃ i, x = .int i ∧ Q (g i) H

section
variable {X : Cx} {a b c : Expr} {ta tb tc : TE} {pos : Pos}

theorem binT (ha : PE X a ta) (hb : PE X b tb) {pins : List (Addr × Obj)} {s : Shared} {σ : St} {H : Hp} {R : V → V → Hp → Prop} (I : Inv X pins σ H s)
    (h : ta σ H fun x H1 => tb σ H1 fun y H2 => R x y H2) {Q : Value → Shared → Prop} {f : Value → Value → Sem Value}
    (hf : ∀ v u s2 x y H2, Inv X pins σ H2 s2 → RelV x v → RelV y u → R x y H2 → wpAny (model X.prog X.w) X.A (f v u) Q X.xe s2) :
    wpAny (model X.prog X.w) X.A (eval a X.env) (fun v s₁ => wpAny (model X.prog X.w) X.A (eval b X.env) (fun u s₂ => wpAny (model X.prog X.w) X.A (f v u) Q X.xe s₂) X.xe s₁) X.xe s := by
  refine thn (ha pins s σ H _ I h) fun v s1 ⟨x, H1, I1, r1, q1⟩ => ?_
  refine thn (hb pins s1 σ H1 _ I1 q1) fun u s2 ⟨y, H2, I2, r2, q2⟩ => ?_
  exact hf v u s2 x y H2 I2 r1 r2 q2

theorem pe_op {op : Operator} {r : R2} (ho : OpR X (binaryOp op) r) (ha : PE X a ta) (hb : PE X b tb) : PE X (.BinOp a op b pos) (tOp r ta tb) := by
  intro pins s σ H Q I h
  exact wpAny_BinOp (binT ha hb I h fun v u s2 x y H2 I2 rx ry q => ho pins s2 σ H2 x y v u Q I2 rx ry q)

/-! ### ints -/
theorem opI {f : Value → Value → Sem Value} {C : Int → Int → Prop} {g : Int → Int → Int}
    (rule : ∀ (i j : Int) (t u : Tok) (s : Shared) (Q : Value → Shared → Prop) (E : Value → Shared → Prop), C i j → Q (.int (g i j) s.toks) { s with toks := s.toks + 1 } → wpAny (model X.prog X.w) X.A (f (.int i t) (.int j u)) Q E s) :
    OpR X f (rI C fun i j => .int (g i j)) := by
  intro pins s σ H x y v u Q I rx ry h
  obtain ⟨i, j, rfl, rfl, hc, q⟩ := h
  obtain ⟨t, rfl⟩ := rx
  obtain ⟨t', rfl⟩ := ry
  exact rule i j t t' s _ _ hc ⟨.int (g i j), H, I.tok _, ⟨_, rfl⟩, q⟩
theorem opI0 {f : Value → Value → Sem Value} {g : Int → Int → Int}
    (rule : ∀ (i j : Int) (t u : Tok) (s : Shared) (Q : Value → Shared → Prop) (E : Value → Shared → Prop), Q (.int (g i j) s.toks) { s with toks := s.toks + 1 } → wpAny (model X.prog X.w) X.A (f (.int i t) (.int j u)) Q E s) :
    OpR X f (rI0 fun i j => .int (g i j)) := by
  intro pins s σ H x y v u Q I rx ry h
  obtain ⟨i, j, rfl, rfl, q⟩ := h
  obtain ⟨t, rfl⟩ := rx
  obtain ⟨t', rfl⟩ := ry
  exact rule i j t t' s _ _ ⟨.int (g i j), H, I.tok _, ⟨_, rfl⟩, q⟩
theorem opB0 {f : Value → Value → Sem Value} {g : Int → Int → Bool}
    (rule : ∀ (i j : Int) (t u : Tok) (s : Shared) (Q : Value → Shared → Prop) (E : Value → Shared → Prop), Q (.bool (g i j)) s → wpAny (model X.prog X.w) X.A (f (.int i t) (.int j u)) Q E s) :
    OpR X f (rI0 fun i j => .bl (g i j)) := by
  intro pins s σ H x y v u Q I rx ry h
  obtain ⟨i, j, rfl, rfl, q⟩ := h
  obtain ⟨t, rfl⟩ := rx
  obtain ⟨t', rfl⟩ := ry
  exact rule i j t t' s _ _ ⟨.bl (g i j), H, I, rfl, q⟩

def CDiv (i j : Int) : Prop := 0 < j ∧ j < 1073741824
def CDivN (i j : Int) : Prop := j ≠ 0 ∧ j.natAbs < 1073741824
def CPow (i j : Int) : Prop := 0 ≤ j ∧ j ≤ 1000000 ∧ i.natAbs < 2 ^ 64
def CMul (i j : Int) : Prop := (-(2 ^ 64) < i ∧ i < 2 ^ 64) ∨ (-(2 ^ 64) < j ∧ j < 2 ^ 64)
theorem CMul.ok {i j : Int} (h : CMul i j) : IntMulOk i j := by
  rcases h with ⟨h1, h2⟩ | ⟨h1, h2⟩
  · exact .of_left (intBits_le_64 h1 h2)
  · exact .of_right (intBits_le_64 h1 h2)

theorem op_add : OpR X (binaryOp .Add) (rI0 fun i j => .int (i + j)) := opI0 fun _ _ _ _ _ _ _ q => add_int q
theorem op_sub : OpR X (binaryOp .Sub) (rI0 fun i j => .int (i - j)) := opI0 fun _ _ _ _ _ _ _ q => sub_int q
theorem op_mul : OpR X (binaryOp .Mult) (rI CMul fun i j => .int (i * j)) := opI fun _ _ _ _ _ _ _ hc q => mul_int q hc.ok
/-- % by a positive divisor of any size -/
theorem op_mod : OpR X (binaryOp .Mod) (rI (fun _ j => 0 < j) fun i j => .int (i % j)) := opI fun i j _ _ _ _ _ hc q => by
  have h1 : (0 : Int) < j := hc
  exact mod_int' (by omega) (by rw [Int.fmod_eq_emod_of_nonneg i (by omega)]; exact q)



/-! ### bools among ints: n += (a < b) -/
end

/-! ### comparisons -/
/-- the scalars that == tells apart as data does -/
def scal : V → V → Bool
  | .non, .non => true | .non, .int _ => true | .int _, .non => true | .non, .bl _ => true | .bl _, .non => true | .non, .str _ => true | .str _, .non => true
  | .int _, .int _ => true | .bl _, .bl _ => true | .str _, .str _ => true | .byt _, .byt _ => true
  | .int _, .str _ => true | .str _, .int _ => true | .bl _, .str _ => true | .str _, .bl _ => true
  | _, _ => false
def rEq : R2 := fun x y H Q => scal x y = true ∧ Q (.bl (decide (x = y))) H
def rNe : R2 := fun x y H Q => scal x y = true ∧ Q (.bl (!decide (x = y))) H

theorem dec_int {i j : Int} : decide (V.int i = V.int j) = (i == j) := by
  rw [Bool.eq_iff_iff]
  simp
theorem dec_bl {i j : Bool} : decide (V.bl i = V.bl j) = (i == j) := by
  rw [Bool.eq_iff_iff]
  simp
theorem dec_str {i j : Str} : decide (V.str i = V.str j) = (i == j) := by
  rw [Bool.eq_iff_iff]
  simp
theorem dec_byt {i j : Array UInt8} : decide (V.byt i = V.byt j) = (i.toList == j.toList) := by
  rw [Bool.eq_iff_iff]
  cases i
  cases j
  simp

section
variable {X : Cx} {a b c : Expr} {ta tb tc : TE} {pos : Pos}
theorem fin_bl {pins : List (Addr × Obj)} {σ : St} {H : Hp} {s : Shared} {Q : VK} {k k' : Bool} (I : Inv X pins σ H s) (q : Q (.bl k) H) (e : k = k') : EP X pins σ Q (.bool k') s := by
  subst e
  exact ⟨.bl k, H, I, rfl, q⟩
theorem op_eq : OpR X (compareOp .Eq) rEq := by
  intro pins s σ H x y v u Q I rx ry h
  obtain ⟨hs, q⟩ := h
  cases x with
  | non =>
    cases rx
    cases y with
    | non => cases ry; exact PySem.EqNone.eq_none_none (fin_bl I q (by simp))
    | bl j => cases ry; exact PySem.EqNone.eq_none_bool (fin_bl I q (by simp))
    | int j => obtain ⟨t', rfl⟩ := ry; exact PySem.EqNone.eq_none_int (fin_bl I q (by simp))
    | str j => obtain ⟨t', rfl⟩ := ry; exact PySem.EqNone.eq_none_str (fin_bl I q (by simp))
    | _ => exact absurd (show false = true from hs) Bool.false_ne_true
  | bl i =>
    cases rx
    cases y with
    | non => cases ry; exact PySem.EqNone.eq_bool_none (fin_bl I q (by simp))
    | bl j => cases ry; exact eq_bool (fin_bl I q dec_bl)
    | str j => obtain ⟨t', rfl⟩ := ry; exact PySem.EqMixed.eq_bool_str (fin_bl I q (by simp))
    | _ => exact absurd (show false = true from hs) Bool.false_ne_true
  | int i =>
    obtain ⟨t, rfl⟩ := rx
    cases y with
    | non => cases ry; exact PySem.EqNone.eq_int_none (fin_bl I q (by simp))
    | int j => obtain ⟨t', rfl⟩ := ry; exact eq_int (fin_bl I q dec_int)
    | str j => obtain ⟨t', rfl⟩ := ry; exact PySem.EqMixed.eq_int_str (fin_bl I q (by simp))
    | _ => exact absurd (show false = true from hs) Bool.false_ne_true
  | str i =>
    obtain ⟨t, rfl⟩ := rx
    cases y with
    | non => cases ry; exact PySem.EqNone.eq_str_none (fin_bl I q (by simp))
    | bl j => cases ry; exact PySem.EqMixed.eq_str_bool (fin_bl I q (by simp))
    | int j => obtain ⟨t', rfl⟩ := ry; exact PySem.EqMixed.eq_str_int (fin_bl I q (by simp))
    | str j => obtain ⟨t', rfl⟩ := ry; exact eq_str (fin_bl I q dec_str)
    | _ => exact absurd (show false = true from hs) Bool.false_ne_true
  | byt i =>
    obtain ⟨t, rfl⟩ := rx
    cases y with
    | byt j => obtain ⟨t', rfl⟩ := ry; exact PySem.W.eq_bytes (fin_bl I q dec_byt)
    | _ => exact absurd (show false = true from hs) Bool.false_ne_true
  | _ => cases y <;> exact absurd (show false = true from hs) Bool.false_ne_true
theorem op_ne : OpR X (compareOp .NotEq) rNe := by
  intro pins s σ H x y v u Q I rx ry h
  obtain ⟨hs, q⟩ := h
  cases x with
  | non =>
    cases rx
    cases y with
    | non => cases ry; exact PySem.EqNone.ne_none_none (fin_bl I q (by simp))
    | bl j => cases ry; exact PySem.EqNone.ne_none_bool (fin_bl I q (by simp))
    | int j => obtain ⟨t', rfl⟩ := ry; exact PySem.EqNone.ne_none_int (fin_bl I q (by simp))
    | str j => obtain ⟨t', rfl⟩ := ry; exact PySem.EqNone.ne_none_str (fin_bl I q (by simp))
    | _ => exact absurd (show false = true from hs) Bool.false_ne_true
  | bl i =>
    cases rx
    cases y with
    | non => cases ry; exact PySem.EqNone.ne_bool_none (fin_bl I q (by simp))
    | bl j => cases ry; exact ne_bool (fin_bl I q (congrArg not dec_bl))
    | str j => obtain ⟨t', rfl⟩ := ry; exact PySem.EqMixed.ne_bool_str (fin_bl I q (by simp))
    | _ => exact absurd (show false = true from hs) Bool.false_ne_true
  | int i =>
    obtain ⟨t, rfl⟩ := rx
    cases y with
    | non => cases ry; exact PySem.EqNone.ne_int_none (fin_bl I q (by simp))
    | int j => obtain ⟨t', rfl⟩ := ry; exact ne_int (fin_bl I q (congrArg not dec_int))
    | str j => obtain ⟨t', rfl⟩ := ry; exact PySem.EqMixed.ne_int_str (fin_bl I q (by simp))
    | _ => exact absurd (show false = true from hs) Bool.false_ne_true
  | str i =>
    obtain ⟨t, rfl⟩ := rx
    cases y with
    | non => cases ry; exact PySem.EqNone.ne_str_none (fin_bl I q (by simp))
    | bl j => cases ry; exact PySem.EqMixed.ne_str_bool (fin_bl I q (by simp))
    | int j => obtain ⟨t', rfl⟩ := ry; exact PySem.EqMixed.ne_str_int (fin_bl I q (by simp))
    | str j => obtain ⟨t', rfl⟩ := ry; exact ne_str (fin_bl I q (congrArg not dec_str))
    | _ => exact absurd (show false = true from hs) Bool.false_ne_true
  | byt i =>
    obtain ⟨t, rfl⟩ := rx
    cases y with
    | byt j => obtain ⟨t', rfl⟩ := ry; exact PySem.W.ne_bytes (fin_bl I q (congrArg not dec_byt))
    | _ => exact absurd (show false = true from hs) Bool.false_ne_true
  | _ => cases y <;> exact absurd (show false = true from hs) Bool.false_ne_true

theorem op_lt : OpR X (compareOp .Lt) (rI0 fun i j => .bl (decide (i < j))) := opB0 fun _ _ _ _ _ _ _ q => lt_int q
theorem op_le : OpR X (compareOp .LtE) (rI0 fun i j => .bl (decide (i ≤ j))) := opB0 fun _ _ _ _ _ _ _ q => le_int q
theorem op_gt : OpR X (compareOp .Gt) (rI0 fun i j => .bl (decide (j < i))) := opB0 fun _ _ _ _ _ _ _ q => gt_int q
theorem op_ge : OpR X (compareOp .GtE) (rI0 fun i j => .bl (decide (j ≤ i))) := opB0 fun _ _ _ _ _ _ _ q => ge_int q


/-- is, is not of two objects that are tracked lists or instances -/
def isObj : HO → Bool
  | .lst _ => true
  | .ins _ _ _ => true
  | _ => false


theorem nomark (b : Expr) {op : CmpOp} (h : op ≠ .In := by decide) (h2 : op ≠ .NotIn := by decide) : behindInMarks op b = false := by
  have e1 : (op == CmpOp.In) = false := by cases op <;> first | rfl | exact absurd rfl h
  have e2 : (op == CmpOp.NotIn) = false := by cases op <;> first | rfl | exact absurd rfl h2
  cases b <;> simp [behindInMarks, e1, e2]
/-- a comparison as a value; hm: nomark b, or (for in, not in) by with_unfolding_all rfl -/
theorem pe_cmpR {op : CmpOp} {r : R2} (ho : OpR X (compareOp op) r) (ha : PE X a ta) (hb : PE X b tb) (hm : behindInMarks op b = false) : PE X (.Compare a [op] [b] pos) (tOp r ta tb) := by
  intro pins s σ H Q I h
  exact wpAny_Compare1 (binT ha hb I h fun v u s2 x y H2 I2 rx ry q => ho pins s2 σ H2 x y v u Q I2 rx ry q) hm
/-- a reading of a value as a test -/
def tTest (t : TE) : TT := fun σ H Q => t σ H fun x H' => ∃ k, x = .bl k ∧ Q k H'
theorem pt_cmpR {op : CmpOp} {r : R2} (ho : OpR X (compareOp op) r) (ha : PE X a ta) (hb : PE X b tb) (hm : behindInMarks op b = false) : PT X (.Compare a [op] [b] pos) (tTest (tOp r ta tb)) := by
  intro pins s σ H Q I h
  refine wpAny_isTrue_Compare1 (thn (ha pins s σ H _ I h) fun v s1 ⟨x, H1, I1, r1, q1⟩ => thn (hb pins s1 σ H1 _ I1 q1) fun u s2 ⟨y, H2, I2, r2, q2⟩ =>
    thn (ho pins s2 σ H2 x y v u _ I2 r1 r2 q2) fun c s3 ⟨z, H3, I3, r3, k, e, q3⟩ => ?_) hm
  subst e
  cases r3
  exact wpAny_truthy_bool ⟨H3, I3, q3⟩
/-- a op1 b op2 c -/
def tChain (r r' : R2) (ta tb tc : TE) : TE := fun σ H Q => ta σ H fun x H1 => tb σ H1 fun y H2 => r x y H2 fun z H3 => ∃ k, z = .bl k ∧
  (if k = true then tc σ H3 fun w' H4 => r' y w' H4 Q else Q (.bl false) H3)

/-! ### truth -/
/-- a value's truth by the abstract heap -/
def TruV (K : PySem.W.Frag) (x : V) (H : Hp) (k : Bool) : Prop :=
  match x with
  | .non => k = false
  | .bl b => k = b
  | .int i => k = (i != 0)
  | .str y => y.length ≤ sizeLine ∧ k = ((y.length : Int) != 0)
  | .byt y => y.size ≤ sizeLine ∧ k = ((y.size : Int) != 0)
  | .ref p => (∃ xs, SqL K H p xs ∧ k = !xs.isEmpty) ∨ (∃ xs, SqT K H p xs ∧ k = !xs.isEmpty) ∨ ∃ kvs, H p = some (.dK kvs) ∧ k = !kvs.isEmpty
  | _ => False
theorem line63 : (sizeLine : Nat) < 2 ^ 63 := by rw [sizeLine_eq]; decide

/-! ### strs and bytes -/
theorem op_add_str : OpR X (binaryOp .Add) (fun x y H Q => ∃ i j, x = .str i ∧ y = .str j ∧ i.length + j.length ≤ sizeLine ∧ Q (.str (i ++ j)) H) := by
  intro pins s σ H x y v u Q I rx ry h
  obtain ⟨i, j, rfl, rfl, hz, q⟩ := h
  obtain ⟨t, rfl⟩ := rx
  obtain ⟨t', rfl⟩ := ry
  exact add_str (fun t' tk => ⟨.str (i ++ j), H, I.tok _, ⟨_, rfl⟩, q⟩) hz

def PlainIxT (b : Expr) : Prop := ∀ o i, subscripted b false o i = operate [o, i] (getItem o i)

/-! ### scalar builtins, by CallR -/
theorem vals1 {x : V} {us : List Value} (r : Vals [x] us) : ∃ u, us = [u] ∧ RelV x u := by
  cases r with
  | cons r1 r2 => cases r2; exact ⟨_, rfl, r1⟩
/-- len of a str, a bytes, a list, a tuple -/
def LenV (K : PySem.W.Frag) (x : V) (H : Hp) (n : Nat) : Prop :=
  match x with
  | .str y => y.length ≤ sizeLine ∧ n = y.length
  | .byt y => y.size ≤ sizeLine ∧ n = y.size
  | .ref p => (∃ xs, SqL K H p xs ∧ n = xs.length) ∨ ∃ xs, SqT K H p xs ∧ n = xs.length
  | _ => False
end
end L2

namespace L2
open PySem PySem.Spec PyProof.Rows

/-! ### an instance, its attributes a map -/
structure ObjM (h : Heap) (x dx C : Addr) (mA : Str → Option Value) : Prop where
  obj : h.get? x = some (PySem.W.instObj C dx)
  ns : h.Ns1 dx mA
  ne : dx ≠ x

theorem lookIn_ns {h : Heap} {dx : Addr} {mA : Str → Option Value} (n : h.Ns1 dx mA) : ∃ od, h.get? dx = some od ∧ ∀ name, PySem.W.lookIn name od = some (mA name) := by
  obtain ⟨o, es, ep, ho, hd, hk, _, hm⟩ := n
  refine ⟨o, ho, fun name => ?_⟩
  have e := hm name
  unfold nsFind findBy at e
  rw [← Array.find?_toList] at e
  unfold PySem.W.lookIn
  rw [hd]
  dsimp only
  split
  · rename_i y q
    rw [q] at e
    exact congrArg some e
  · rename_i q
    rw [q] at e
    have a : es.toList.any (·.refKey) = false := by
      rw [List.any_eq_false]
      intro y hy
      obtain ⟨z, t, hkey⟩ := hk y (Array.mem_toList_iff.mp hy)
      simp [DictEntry.refKey, hkey]
    have a' : ¬ es.toList.any (·.refKey) = true := by rw [a]; exact Bool.false_ne_true
    rw [if_neg a']
    exact congrArg some e

theorem ObjM.look {h : Heap} {x dx C : Addr} {mA : Str → Option Value} (I : ObjM h x dx C mA) : ∃ od, PySem.W.InstAt h x (PySem.W.instObj C dx) C (some od) ∧ ∀ name, PySem.W.lookIn name od = some (mA name) :=
  let ⟨od, ho, hl⟩ := lookIn_ns I.ns
  ⟨od, ⟨I.obj, rfl, rfl, ho⟩, hl⟩

section
variable {prog : Program} {w : World} {A : Around} {E : Value → Shared → Prop} {s : Shared} {K : PySem.W.Frag} {x dx C f : Addr} {mA : Str → Option Value} {name : Str} {v : Value}





end

/-! ### the attributes as a list of pairs -/
def putF (f : Str) (v : V) : List (Str × V) → List (Str × V)
  | [] => [(f, v)]
  | (g, x) :: r => if g = f then (g, v) :: r else (g, x) :: putF f v r


section
variable {P : Program} {w : World} {H H' : Hp} {h h' : Heap} {a C dx : Addr} {fs fs' : List (Str × V)}
theorem ins_get (hok : HOk P w H h) (e : H a = some (.ins C dx fs)) : ∃ mA, ObjM h a dx C mA ∧ (∀ f, RelO (fs.lookup f) (mA f)) ∧ PySem.Within mA (fs.map (·.1)) ∧ fs.length ≤ 1000 ∧ H dx = some (.own a) := by
  obtain ⟨d, z, ne, ob, mA, n, r, q⟩ := (show ObjOk P w H h a (.ins C dx fs) from hok a _ e)
  exact ⟨mA, ⟨ob, n, ne⟩, r, q, z, d⟩
end

/-! ### what of the text a class must have -/
structure Cls (K : PySem.W.Frag) (C : Addr) : Prop where
  pg : PySem.W.plainGet K C Str.empty = true
  hd : PySem.W.hasDictIn K C = true
  po : PySem.W.plainOver K C = true
  sa : PySem.W.findIn K (.ref C) "__setattr__" = some (some (.builtin "object.__setattr__"))
theorem Cls.get {K : PySem.W.Frag} {C : Addr} (c : Cls K C) (f : Str) : PySem.W.plainGet K C f = true := c.pg
/-- no class of it has the name -/
def NoAttr (K : PySem.W.Frag) (C : Addr) (f : Str) : Prop := PySem.W.findIn K (.ref C) f = some none
/-- a constant of the class -/
structure Con (K : PySem.W.Frag) (C : Addr) (f : Str) (v : V) (u : Value) : Prop where
  at_ : PySem.W.findIn K (.ref C) f = some (some u)
  rel : RelV v u
  get : PySem.W.specialIn K u "__get__" = some none
  cp : PySem.W.copiedNames.contains f = false
/-- a method: a plain def of the class or of one above it -/
structure Meth (K : PySem.W.Frag) (C : Addr) (m : Str) (f : Addr) : Prop where
  at_ : PySem.W.findIn K (.ref C) m = some (some (.ref f))
  fn : PySem.W.isFn K (.ref f) = true
  kp : PySem.W.keepIn K (.ref f) = true

section
variable {X : Cx} {pins : List (Addr × Obj)} {σ : St} {H : Hp} {s : Shared} {a C dx : Addr} {fs : List (Str × V)} {f : Str} {v : V} {A : Around} {E : Value → Shared → Prop}






end

/-! ### readings and rules -/
/-- e.f, an attribute of the instance -/
def tFld (K : PySem.W.Frag) (ta : TE) (f : Str) : TE := fun σ H Q => ta σ H fun x H1 => ∃ a C dx fs v, x = .ref a ∧ H1 a = some (.ins C dx fs) ∧ Cls K C ∧ NoAttr K C f ∧ fs.lookup f = some v ∧ Q v H1
/-- e.f, a constant of the class -/
def tCon (K : PySem.W.Frag) (ta : TE) (f : Str) : TE := fun σ H Q => ta σ H fun x H1 => ∃ a C dx fs v u, x = .ref a ∧ H1 a = some (.ins C dx fs) ∧ Cls K C ∧ Con K C f v u ∧ fs.lookup f = none ∧ Q v H1
/-- e.f = value -/
def sFld (K : PySem.W.Frag) (ta tv : TE) (f : Str) : TS := fun D σ H => tv σ H fun y H1 => ta σ H1 fun x H2 => ∃ a C dx fs, x = .ref a ∧ H2 a = some (.ins C dx fs) ∧ Cls K C ∧ NoAttr K C f ∧ fs.length < 1000 ∧
  D.nx σ (upd H2 a (.ins C dx (putF f y fs)))
/-- an augmented operator on two values -/
def InOp (X : Cx) (op : Operator) (rd : V → V → Hp → VK → Prop) : Prop :=
  ∀ (pins : List (Addr × Obj)) (s : Shared) (σ : St) (H : Hp) (x y : V) (u v : Value) (Q : VK), Inv X pins σ H s → RelV x u → RelV y v → rd x y H Q → wpAny (model X.prog X.w) X.A (inplaceOp op u v) (EP X pins σ Q) X.xe s
/-- e.f op= value -/
def sFldAug (K : PySem.W.Frag) (ta tv : TE) (rd : V → V → Hp → VK → Prop) (f : Str) : TS := fun D σ H => ta σ H fun x H1 => ∃ a C dx fs v, x = .ref a ∧ H1 a = some (.ins C dx fs) ∧ Cls K C ∧ NoAttr K C f ∧ fs.lookup f = some v ∧
  tv σ H1 fun y H2 => rd v y H2 fun z H3 => ∃ dx' fs', H3 a = some (.ins C dx' fs') ∧ fs'.length < 1000 ∧ D.nx σ (upd H3 a (.ins C dx' (putF f z fs')))

section
variable {X : Cx} {o e value : Expr} {f : Str} {pos pos' tpos : Pos} {ta tv : TE}
def rAdd : V → V → Hp → VK → Prop := fun x y H Q => ∃ i j, x = .int i ∧ y = .int j ∧ Q (.int (i + j)) H
def rSub : V → V → Hp → VK → Prop := fun x y H Q => ∃ i j, x = .int i ∧ y = .int j ∧ Q (.int (i - j)) H

end

/-! ### isinstance -/
section
variable {X : Cx} {pins : List (Addr × Obj)} {σ : St} {H : Hp} {s : Shared} {A : Around} {E : Value → Shared → Prop} {Q : Value → Shared → Prop} {c : Value} {b : Bool}
/-- the type of a value, as the fragment's deciders take it; for an instance its class -/
inductive TyOf (K : PySem.W.Frag) (H : Hp) : V → Value → Prop where
  | non : TyOf K H .non (.type "NoneType")
  | bl (x : Bool) : TyOf K H (.bl x) (.type "bool")
  | int (i : Int) : TyOf K H (.int i) (.type "int")
  | str (x : Str) : TyOf K H (.str x) (.type "str")
  | flt (x : UInt64) : TyOf K H (.flt x) (.type "float")
  | lst {a : Addr} {xs : List V} (e : H a = some (.lst xs)) : TyOf K H (.ref a) (.type "list")
  | frz {a : Addr} {o : Obj} {xs : List V} (e : H a = some (.frz o (.lst xs))) : TyOf K H (.ref a) (.type "list")
  | tup {a : Addr} {xs : List V} (e : H a = some (.tup xs)) : TyOf K H (.ref a) (.type "tuple")
  | dK {a : Addr} {kvs : List (Key × V)} (e : H a = some (.dK kvs)) : TyOf K H (.ref a) (.type "dict")
  | dT {a : Addr} {kvs : List (List Key × V)} (e : H a = some (.dT kvs)) : TyOf K H (.ref a) (.type "dict")
  | ins {a C dx : Addr} {fs : List (Str × V)} (e : H a = some (.ins C dx fs)) (cl : Cls K C) (ha : PySem.W.findIn K (.ref C) "__class__" = some (some (.builtin "object.__class__")))
      (hn : PySem.W.specialIn K (.builtin "object.__class__") "__get__" = some (some (.builtin "getset_descriptor.__get__"))) (htk : PySem.W.takesIn K (.builtin "object.__class__") = some true)
      (hm : PySem.W.mroIn K C (.type "object") = some true) : TyOf K H (.ref a) (.ref C)
/-- isinstance(x, c) for one class c, a built-in or an own one: kitOne's answer -/
theorem isinst_ok {x : V} {u t : Value} (I : Inv X pins σ H s) (rx : RelV x u) (ty : TyOf X.K H x t) (e : PySem.W.kitOne X.K t c = some b) (h : ∀ tk, Q (.bool b) { s with toks := tk }) :
    wpAny (model X.prog X.w) A (call (.builtin "isinstance") [u, c]) Q E s := by
  cases ty with
  | non => cases (show u = Value.none from rx); exact PySem.W.kia_one PySem.W.kitx_none I.kIn True.intro e (fun z => nomatch z) h
  | bl y => cases (show u = Value.bool y from rx); exact PySem.W.kia_one PySem.W.kitx_bool I.kIn True.intro e (fun z => nomatch z) h
  | int i => obtain ⟨t, q⟩ := (show ∃ t, u = Value.int i t from rx); cases q; exact PySem.W.kia_one PySem.W.kitx_int I.kIn True.intro e (fun z => nomatch z) h
  | str y => obtain ⟨t, q⟩ := (show ∃ t, u = Value.str y t from rx); cases q; exact PySem.W.kia_one PySem.W.kitx_str I.kIn True.intro e (fun z => nomatch z) h
  | flt y => obtain ⟨t, q⟩ := (show ∃ t, u = Value.float y t from rx); cases q; exact PySem.W.kia_one PySem.W.kitx_float I.kIn True.intro e (fun z => nomatch z) h
  | @lst a xs ea =>
    cases (show u = Value.ref a from rx)
    obtain ⟨_, _, n, _, h1⟩ := (show ObjOk X.prog X.w H s.heap a (.lst xs) from I.hok a _ ea)
    exact PySem.W.kia_one PySem.W.kitx_list I.kIn ⟨_, h1, rfl⟩ e (fun z => nomatch z) h
  | @frz a ob xs ea =>
    cases (show u = Value.ref a from rx)
    obtain ⟨_, _, _, n, _, h1⟩ := (show ObjOk X.prog X.w H s.heap a (.frz ob (.lst xs)) from I.hok a _ ea)
    exact PySem.W.kia_one PySem.W.kitx_list I.kIn ⟨_, h1, rfl⟩ e (fun z => nomatch z) h
  | @tup a xs ea =>
    cases (show u = Value.ref a from rx)
    obtain ⟨_, _, _, p⟩ := (show ObjOk X.prog X.w H s.heap a (.tup xs) from I.hok a _ ea)
    obtain ⟨o, h1, h2, _⟩ := p
    exact PySem.W.kia_one PySem.W.kitx_tuple I.kIn ⟨o, h1, h2⟩ e (fun z => nomatch z) h
  | @dK a kvs ea =>
    cases (show u = Value.ref a from rx)
    obtain ⟨_, _, vs, _, p⟩ := (show ObjOk X.prog X.w H s.heap a (.dK kvs) from I.hok a _ ea)
    obtain ⟨o, es, ep, h1, h2, _⟩ := p
    exact PySem.W.kia_one PySem.W.kitx_dict I.kIn ⟨o, h1, h2.1⟩ e (fun z => nomatch z) h
  | @dT a kvs ea =>
    cases (show u = Value.ref a from rx)
    obtain ⟨_, _, xs, _, o, es, ep, h1, h2, _⟩ := (show ObjOk X.prog X.w H s.heap a (.dT kvs) from I.hok a _ ea)
    exact PySem.W.kia_one PySem.W.kitx_dict I.kIn ⟨o, h1, h2.1⟩ e (fun z => nomatch z) h
  | @ins a C dx fs ea cl ha hn htk hm =>
    cases (show u = Value.ref a from rx)
    obtain ⟨mA, O, _⟩ := ins_get I.hok ea
    obtain ⟨od, J, _⟩ := O.look
    exact PySem.W.kia_one (PySem.W.kitx_own (cl.get _) cl.hd ha hn htk hm) I.kIn J e (fun z => nomatch z) h
end
end L2

namespace L2
open PySem PySem.Spec PyProof.Rows

/-! ### room -/
structure Room (k : Nat) (A : Around) : Prop where
  hd : A.handled = none
  dp : A.depth + 3 * k + 5 < recursionLimit
  un : A.units + 16 * k + 200 < cLine
theorem Room.mono {j k : Nat} {A : Around} (r : Room k A) (h : j ≤ k) : Room j A := ⟨r.hd, by have := r.dp; omega, by have := r.un; omega⟩
theorem Room.deeper {k : Nat} {A : Around} (r : Room (k + 1) A) (env : Env) : Room k (A.deeper env) :=
  ⟨r.hd, by have := r.dp; show A.depth + 1 + 3 * k + 5 < _; omega, by have := r.un; show A.units + 3 + 16 * k + 200 < _; omega⟩
theorem Room.depth {k : Nat} {A : Around} (r : Room k A) : A.depth < recursionLimit := by have := r.dp; omega

/-! ### argument lists and displays -/
def tNil : TA := fun _ H Q => Q [] H
def tCons (ta : TE) (tr : TA) : TA := fun σ H Q => ta σ H fun x H1 => tr σ H1 fun xs H2 => Q (x :: xs) H2
section
variable {X : Cx} {e : Expr} {es : List Expr} {te : TE} {t : TA} {pos : Pos}
theorem pa_nil : PA X [] tNil := fun _ _ _ _ H Q I h => Calls.spliced_nil ⟨[], H, I, .nil, h⟩
theorem pa_cons (ha : PE X e te) (hr : PA X es t) (hs : starEach (e :: es) X.env = (false, eval e X.env) :: starEach es X.env := by rfl) : PA X (e :: es) (tCons te t) := by
  intro pos pins s σ H Q I h
  rw [hs]
  show wpAny _ _ (spliced ((false, eval e X.env) :: backTo pos (starEach es X.env))) _ _ s
  refine Calls.spliced_cons (thn (ha pins s σ H _ I h) fun u s1 ⟨x, H1, I1, r1, q1⟩ => ?_)
  exact thn (hr pos pins s1 σ H1 _ I1 q1) fun us s2 ⟨xs, H2, I2, r2, q2⟩ => ⟨x :: xs, H2, I2, .cons r1 r2, q2⟩

/-- a tuple, a list of written items -/
def tTup (t : TA) : TE := fun σ H Q => t σ H fun xs H1 => xs.length ≤ sizeLine ∧ ∀ p, H1 p = none → Q (.ref p) (upd H1 p (.tup xs))
def tLst (t : TA) : TE := fun σ H Q => t σ H fun xs H1 => xs.length ≤ sizeLine ∧ ∀ p, H1 p = none → Q (.ref p) (upd H1 p (.lst xs))
theorem pe_tup {x1} (h : PA X es t) : PE X (.Tuple es x1 pos) (tTup t) := by
  intro pins s σ H Q I hq
  refine wpAny_Tuple_spliced (thn (h pos pins s σ H _ I hq) fun us s1 ⟨xs, H1, I1, r, z, q⟩ => ⟨by rw [← r.length]; exact z, ?_⟩)
  have hf : H1 s1.heap.objs.size = none := I1.hok.fresh (Nat.le_refl _)
  refine ⟨.ref s1.heap.objs.size, upd H1 s1.heap.objs.size (.tup xs), I1.laid (t' := s1.toks) (fun b u e => Heap.get?_push_of_some _ e) (Nat.le_refl _) ?_, rfl, q _ hf⟩
  exact ⟨z, us, r, ⟨_, Heap.get?_push_size _ rfl, rfl, _, rfl⟩⟩
theorem pe_lst (h : PA X es t) : PE X (.List es pos) (tLst t) := by
  intro pins s σ H Q I hq
  refine wpAny_List_spliced (thn (h pos pins s σ H _ I hq) fun us s1 ⟨xs, H1, I1, r, z, q⟩ => ⟨by rw [← r.length]; exact z, ?_⟩)
  have hf : H1 s1.heap.objs.size = none := I1.hok.fresh (Nat.le_refl _)
  refine ⟨.ref s1.heap.objs.size, upd H1 s1.heap.objs.size (.lst xs), I1.laid (t' := s1.toks) (fun b u e => Heap.get?_push_of_some _ e) (Nat.le_refl _) ?_, rfl, q _ hf⟩
  exact ⟨z, us, 0, r, Heap.get?_push_size _ rfl⟩
end

/-! ### what a def promises -/
/-- a def's promise: the bound arguments in the parameters' order, the heap, the wanted end, the wanted exception -/
abbrev Sp := List V → Hp → VK → XK → Prop
/-- how an exception lies behind a call (file 08 gives it): the callers' frames, abstract heap and state ahead of the call, the wish, the exception, the state -/
abbrev CXT := List Env → Hp → Shared → XK → Value → Shared → Prop

/-- the state at a call -/
structure Env0 (P : Program) (w : World) (K : PySem.W.Frag) (mg : Str → Option Value) (base : Heap) (A : Around) (outer : List Env) (s : Shared) (H : Hp) : Prop where
  frames : A.frames = some outer
  mod : Mod K mg base
  bs : ∀ b o, base.get? b = some o → s.heap.get? b = some o ∧ H b = none
  bsz : base.objs.size ≤ s.heap.objs.size
  funs : s.heap.FunFrames base outer
  frf : ∀ b ∈ frs outer, H b = none
  hok : HOk P w H s.heap
  bare : AllBare s.gens
/-- a call's end -/
def CE (outer : List Env) (P : Program) (w : World) (H : Hp) (s : Shared) (Q : VK) (u : Value) (s' : Shared) : Prop :=
  ∃ v H', s'.os = s.os ∧ AllBare s'.gens ∧ Un (frs outer) [] H H' s.heap s'.heap ∧ HOk P w H' s'.heap ∧ RelV v u ∧ Q v H'
def CR (CX : CXT) (outer : List Env) (P : Program) (w : World) (H : Hp) (s : Shared) (Q : VK) (E : XK) (r : Result) (s' : Shared) : Prop :=
  match r with
  | .ok (.ret u) => CE outer P w H s Q u s'
  | .ok _ => False
  | .error e => CX outer H s E e s'
structure FnOk (P : Program) (w : World) (K : PySem.W.Frag) (mg : Str → Option Value) (base : Heap) (CX : CXT) (k : Nat) (f : Addr) (fd : FuncData) (ps : List Str) (sp : Sp) : Prop where
  len : ∀ vs H Q E, sp vs H Q E → vs.length = ps.length
  run : ∀ (A : Around) (outer : List Env) (s : Shared) (H : Hp) (args : Args) (us : List Value) (vs : List V) (Q : VK) (E : XK), Room k A → Env0 P w K mg base A outer s H → BindsTo s fd args (ps.zip us) → Vals vs us → sp vs H Q E →
    codeAny (model P w) A (.call (.ref f) args) (CR CX outer P w H s Q E) s


section
variable {X : Cx} {pins : List (Addr × Obj)} {σ : St} {H : Hp} {s s' : Shared}
/-- from a body: what a callee wants -/
theorem Inv.env0 (I : Inv X pins σ H s) : Env0 X.prog X.w X.K X.mg X.base X.A X.stack s H :=
  ⟨I.ok.frames, I.ok.mod, I.bs, Nat.le_trans I.ok.bsz I.sz, I.stack, I.stkFree, I.hok, I.bare⟩
/-- behind a call -/
theorem Inv.after {Q : VK} {u : Value} (I : Inv X pins σ H s) (h : CE X.stack X.prog X.w H s Q u s') : EP X pins σ Q u s' := by
  obtain ⟨v, H', os, bare, un, hok, r, q⟩ := h
  obtain ⟨hh, g, d, t, os'⟩ := s'
  obtain rfl : os' = s.os := os
  exact ⟨v, H', I.call (h' := hh) (g' := g) (d' := d) (t' := t) (ch := []) un hok bare (fun b z => absurd z (by simp)), r, q⟩
end

/-! ### calls -/
/-- f(..): the written arguments, then the defaults dvs; E: what is wanted of an exception -/
def tCall (sp : Sp) (dvs : List V) (E : XK) (t : TA) : TE := fun σ H Q => t σ H fun vs H1 => sp (vs ++ dvs) H1 Q E
/-- o.m(..) of an instance of the class at C -/
def tMeth (C : Addr) (m : Str) (sp : Sp) (dvs : List V) (E : XK) (ta : TE) (t : TA) : TE := fun σ H Q => ta σ H fun x H1 => ∃ a dx fs, x = .ref a ∧ H1 a = some (.ins C dx fs) ∧ fs.lookup m = none ∧
  t σ H1 fun vs H2 => sp (x :: (vs ++ dvs)) H2 Q E
/-- C(..): a new instance and its dict, then __init__ -/
def tMake (C : Addr) (sp : Sp) (dvs : List V) (E : XK) (t : TA) : TE := fun σ H Q => t σ H fun vs H1 => ∀ x dx, H1 x = none → H1 dx = none → dx ≠ x →
  sp (.ref x :: (vs ++ dvs)) (upd (upd H1 dx (.own x)) x (.ins C dx [])) (fun v H2 => v = .non ∧ Q (.ref x) H2) E

/-- how the parameters are bound: us the positional arguments, kw the keywords' values by name, ds the defaults that fill up -/
def Binds (K : PySem.W.Frag) (fd : FuncData) (ps : List Str) (ds : List Value) : Prop :=
  ∀ (s : Shared) (us : List Value), K.In s.heap → (us ++ ds).length = ps.length → BindsTo s fd ⟨us, []⟩ (ps.zip (us ++ ds))
/-- every parameter is given -/
theorem Binds.all {K : PySem.W.Frag} {fd : FuncData} {ps : List Str} (h : ∀ us : List Value, us.length = ps.length → bindArgs fd ⟨us, []⟩ = pure (ps.zip us)) : Binds K fd ps [] := fun s us _ hl => by
  rw [List.append_nil] at hl ⊢
  exact .of_eq (h us hl)

/-- an exception of a callee reaches what this body wants of exceptions -/
def Passes (CX : CXT) (X : Cx) (E : XK) : Prop := ∀ (pins : List (Addr × Obj)) (σ : St) (H : Hp) (s : Shared) (e : Value) (s' : Shared), Inv X pins σ H s → CX X.stack H s E e s' → X.xe e s'

section
variable {X : Cx} {CX : CXT} {k : Nat} {f C : Addr} {fd : FuncData} {ps : List Str} {sp : Sp} {dvs : List V} {ds : List Value} {E : XK} {x m : Str} {p pos apos : Pos} {e o : Expr} {es : List Expr} {ta : TE} {t : TA}

/-- the callee runs -/
theorem run_fn {pins : List (Addr × Obj)} {σ : St} {H : Hp} {s : Shared} {Q : VK} {us : List Value} {vs : List V} (F : FnOk X.prog X.w X.K X.mg X.base CX k f fd ps sp) (hr : Room k X.A) (hb : Binds X.K fd ps ds) (hd : Vals dvs ds) (hx : Passes CX X E)
    (I : Inv X pins σ H s) (r : Vals vs us) (h : sp (vs ++ dvs) H Q E) : wpAny (model X.prog X.w) X.A (call (.ref f) us) (EP X pins σ Q) X.xe s := by
  have r2 : Vals (vs ++ dvs) (us ++ ds) := r.append hd
  have hl : (us ++ ds).length = ps.length := by rw [← r2.length]; exact F.len _ _ _ _ h
  refine wpAny_call (codeAny_mono (F.run X.A X.stack s H ⟨us, []⟩ (us ++ ds) (vs ++ dvs) Q E hr I.env0 (hb s us I.kIn hl) r2 h) fun r s' hq => ?_)
  cases r with
  | error e => exact hx pins σ H s e s' I hq
  | ok fl =>
    cases fl with
    | ret u => exact I.after hq
    | next => exact False.elim hq
    | brk => exact False.elim hq
    | cont => exact False.elim hq

theorem pe_call (F : FnOk X.prog X.w X.K X.mg X.base CX k f fd ps sp) (hr : Room k X.A) (hg : Gl X x) (hm : X.mg x = some (.ref f)) (hk : PySem.W.keepIn X.K (.ref f) = true) (hb : Binds X.K fd ps ds) (hd : Vals dvs ds) (hx : Passes CX X E)
    (ha : PA X (e :: es) t) (hdb : (x == ("__debug__" : Str)) = false := by decide) (he : starEach (e :: es) X.env = (false, eval e X.env) :: starEach es X.env := by rfl) (hpl : (backTo pos (starEach es X.env)).any (·.1) = false := by rfl) :
    PE X (.Call (.Name x p) (e :: es) [] pos) (tCall sp dvs E t) := by
  intro pins s σ H Q I h
  refine wpAny_Call_Name_kw (ld_glob I hg hm ?_ hdb)
  refine PySem.W.callWith_K (h₀ := X.base) I.ok.mod.kin hk (thn (ha pos pins s σ H _ I h) fun us s1 ⟨vs, H1, I1, r, q⟩ => ⟨I1.kIn, ?_⟩) he hpl
  exact run_fn F hr hb hd hx I1 r q


/-- what a class must have to be made -/
structure Mk (K : PySem.W.Frag) (C f : Addr) : Prop where
  makes : PySem.W.makesIn K C = true
  init : PySem.W.findIn K (.ref C) "__init__" = some (some (.ref f))
  fn : PySem.W.isFn K (.ref f) = true
  kp : PySem.W.keepIn K (.ref C) = true

end

/-! ### keywords -/
/-- the values of the keywords, from the left -/
def PK (X : Cx) (kws : List Keyword) (t : TA) : Prop :=
  ∀ (pos : Pos) (pins : List (Addr × Obj)) (s : Shared) (σ : St) (H : Hp) (Q : List V → Hp → Prop), Inv X pins σ H s → t σ H Q → wpAny (model X.prog X.w) X.A (evalAll ((backToKw pos (keywordEach kws X.env)).map (·.2))) (AP X pins σ Q) X.xe s
section
variable {X : Cx} {CX : CXT} {k : Nat} {f C : Addr} {fd : FuncData} {ps ks : List Str} {sp : Sp} {E : XK} {x m : Str} {p pos apos kpos : Pos} {e o : Expr} {es : List Expr} {kws : List Keyword} {te ta : TE} {t tk : TA} {nm : Option Str}

/-- how a call with keywords binds: g puts the positional values us and the keywords' values ws (names ks) in the parameters' order, defaults among them -/
structure KBinds (K : PySem.W.Frag) (fd : FuncData) (ps ks : List Str) (g : List Value → List Value → List Value) (gV : List V → List V → List V) : Prop where
  to : ∀ (s : Shared) (us ws : List Value), K.In s.heap → (g us ws).length = ps.length → BindsTo s fd ⟨us, ks.zip ws⟩ (ps.zip (g us ws))
  rel : ∀ {vs : List V} {us : List Value} {zs : List V} {ws : List Value}, Vals vs us → Vals zs ws → Vals (gV vs zs) (g us ws)
def tCallK (sp : Sp) (gV : List V → List V → List V) (E : XK) (t tk : TA) : TE := fun σ H Q => t σ H fun vs H1 => tk σ H1 fun zs H2 => sp (gV vs zs) H2 Q E
variable {g : List Value → List Value → List Value} {gV : List V → List V → List V}
end

/-! ### a def's body keeps its promise -/
/-- names: the parameters first -/
structure FnScope (N P : List Str) (sc : Scope) : Prop where
  kind : sc.kind = .function
  co : sc.isCoroutine = false
  gen : sc.isGenerator = false
  nd : N.Nodup
  pre : N.take P.length = P
  par : ∀ x ∈ P, sc.names.lookup x = some .local ∨ sc.names.lookup x = some .cell
  nofree : ∀ y ∈ sc.names, y.2 ≠ .free

theorem bindL_out {kindOf : Str → Option NameKind} {x : Str} : ∀ {binds : List (Str × Value)} {m : Str → Option Value}, (∀ v, (x, v) ∉ binds) → bindL kindOf binds m x = m x
  | [], _, _ => rfl
  | (n, v) :: r, m, h => by
    unfold bindL
    rw [bindL_out fun w hw => h w (List.mem_cons_of_mem _ hw)]
    split
    · have : x ≠ n := by rintro rfl; exact h v List.mem_cons_self
      simp [this]
    · rfl
theorem bindC_out {kindOf : Str → Option NameKind} {x : Str} : ∀ {binds : List (Str × Value)} {m : Str → Option Value}, (∀ v, (x, v) ∉ binds) → bindC kindOf binds m x = m x
  | [], _, _ => rfl
  | (n, v) :: r, m, h => by
    unfold bindC
    rw [bindC_out fun w hw => h w (List.mem_cons_of_mem _ hw)]
    split
    · rfl
    · have : x ≠ n := by rintro rfl; exact h v List.mem_cons_self
      simp [this]
theorem bindL_get {kindOf : Str → Option NameKind} {x : Str} {v : Value} : ∀ {P : List Str} {vs : List Value} {i : Nat} {m : Str → Option Value}, P.Nodup → P[i]? = some x → vs[i]? = some v → kindOf x = some .local →
    bindL kindOf (P.zip vs) m x = some v
  | [], _, _, _, _, h, _, _ => by simp at h
  | _ :: _, [], _, _, _, _, h, _ => by simp at h
  | p :: P, w :: vs, 0, m, nd, h1, h2, hk => by
    simp at h1 h2; subst h1; subst h2
    show bindL kindOf ((p, w) :: P.zip vs) m p = _
    unfold bindL
    rw [bindL_out fun v hv => (List.nodup_cons.mp nd).1 (List.of_mem_zip hv).1, if_pos hk]
    simp
  | p :: P, w :: vs, i + 1, m, nd, h1, h2, hk => by
    show bindL kindOf ((p, w) :: P.zip vs) m x = _
    unfold bindL
    exact bindL_get (i := i) (List.nodup_cons.mp nd).2 (by simpa using h1) (by simpa using h2) hk
theorem bindC_get {kindOf : Str → Option NameKind} {x : Str} {v : Value} : ∀ {P : List Str} {vs : List Value} {i : Nat} {m : Str → Option Value}, P.Nodup → P[i]? = some x → vs[i]? = some v → kindOf x ≠ some .local →
    bindC kindOf (P.zip vs) m x = some v
  | [], _, _, _, _, h, _, _ => by simp at h
  | _ :: _, [], _, _, _, _, h, _ => by simp at h
  | p :: P, w :: vs, 0, m, nd, h1, h2, hk => by
    simp at h1 h2; subst h1; subst h2
    show bindC kindOf ((p, w) :: P.zip vs) m p = _
    unfold bindC
    rw [bindC_out fun v hv => (List.nodup_cons.mp nd).1 (List.of_mem_zip hv).1, if_neg hk]
    simp
  | p :: P, w :: vs, i + 1, m, nd, h1, h2, hk => by
    show bindC kindOf ((p, w) :: P.zip vs) m x = _
    unfold bindC
    exact bindC_get (i := i) (List.nodup_cons.mp nd).2 (by simpa using h1) (by simpa using h2) hk

/-- the names' values at the entry -/
def start (N : List Str) (vs : List V) : St := vs.map some ++ List.replicate (N.length - vs.length) none

/-- the context of a def's body, at its entry; an exception leaves the frame, then lies as CX says -/
def cxOf (CX : CXT) (P : Program) (w : World) (K : PySem.W.Frag) (mg : Str → Option Value) (base : Heap) (N : List Str) (qual : Str) (scope : Scope) (f : Addr) (cd : Value) (A : Around) (outer : List Env) (s : Shared) (H : Hp) (E : XK) : Cx where
  prog := P
  w := w
  K := K
  mg := mg
  base := base
  A := A.deeper (envOfC qual scope s.heap.objs.size f cd)
  N := N
  s₀ := s
  H₀ := H
  env := envOfC qual scope s.heap.objs.size f cd
  outer := outer
  stack := envOfC qual scope s.heap.objs.size f cd :: outer
  ex := []
  calm := true
  fn := fun _ => true
  pn := []
  xe := fun e s' => wpAny (model P w) (A.deeper (envOfC qual scope s.heap.objs.size f cd)) (leaving (envOfC qual scope s.heap.objs.size f cd) e) (fun _ s'' => CX outer H s E e s'') (fun e' s'' => CX outer H s E e' s'') s'

theorem cell_has {sc : Scope} {n : Nat} {x : Str} (h : sc.names.lookup x = some .cell) : ∃ c, (cellsFrom n sc.names []).lookup x = some c := by
  have q := PySem.W.cellsFrom_some sc.names n [] (.inl h)
  exact Option.isSome_iff_exists.mp q

theorem inv_start {CX : CXT} {P : Program} {w : World} {K : PySem.W.Frag} {mg : Str → Option Value} {base : Heap} {N ps : List Str} {qual : Str} {scope : Scope} {f : Addr} {cd : Value} {A : Around} {outer : List Env} {s s1 : Shared} {H : Hp} {E : XK} {us : List Value} {vs : List V}
    (S : FnScope N ps scope) (hd : A.handled = none) (e0 : Env0 P w K mg base A outer s H) (hl : vs.length = ps.length) (r : Vals vs us)
    (x : InCallC s s.heap.objs.size (bindL (envOfC qual scope s.heap.objs.size f cd).kindOf (ps.zip us) fun _ => none) (cellsFrom (s.heap.objs.size + 1) scope.names []) (bindC (envOfC qual scope s.heap.objs.size f cd).kindOf (ps.zip us) fun _ => none) s1) :
    Inv (cxOf CX P w K mg base N qual scope f cd A outer s H E) [] (start N vs) H s1 := by
  have hpl : ps.length ≤ N.length := by have := congrArg List.length S.pre; rw [List.length_take] at this; omega
  obtain ⟨h1, tk, rfl, hk⟩ := x.done
  have noA : ∀ b : Addr, b ∉ (cxOf CX P w K mg base N qual scope f cd A outer s H E).ex := fun b z => absurd (show b ∈ ([] : List Addr) from z) (by simp)
  refine ⟨⟨e0.mod, S.kind, rfl, rfl, Nat.le_refl _, fun y z c h1 h2 => ?_, fun y hy => ?_, fun y c _ h => ?_, fun _ => hd, Around.frames_deeper e0.frames, .inr ⟨rfl, rfl⟩, fun b z => absurd z (noA b), e0.bs, e0.bsz, fun b _ _ => noA b, fun b z => absurd z (noA b), e0.funs, e0.frf⟩,
    rfl, e0.bare, Un.kept hk, ⟨_, x.toInCall.ns, fun i y v h1 h2 h3 => ?_⟩, fun y c h => ⟨_, x.cell y c h⟩, e0.hok.fresh (Nat.le_refl _), fun y c h => ?_, fun p hp => absurd (show p ∈ ([] : List (Addr × Obj)) from hp) (by simp), e0.hok.kept hk, ?_⟩
  · exact name_of_addr x.apart (PySem.mem_of_lookup h1) (PySem.mem_of_lookup h2)
  · have hy : scope.names.lookup y = some .cell ∨ scope.names.lookup y = some .free := hy
    rcases hy with hy | hy
    · exact cell_has hy
    · exact absurd rfl (S.nofree _ (PySem.mem_of_lookup hy))
  · exact Nat.le_of_lt (x.above y c (PySem.mem_of_lookup h))
  · have hi : i < vs.length := by
      unfold start at h2
      by_cases hi : i < vs.length
      · exact hi
      · rw [List.getElem?_append_right (by simpa using hi)] at h2
        rw [List.getElem?_replicate] at h2
        split at h2 <;> cases h2
    have ha : vs[i]? = some v := by
      unfold start at h2
      rw [List.getElem?_append_left (by simpa using hi), List.getElem?_map] at h2
      cases e : vs[i]? with
      | none => rw [e] at h2; cases h2
      | some a => rw [e] at h2; cases h2; rfl
    obtain ⟨u, hu, rv⟩ := r.get ha
    have hp : ps[i]? = some y := by
      rw [← S.pre, List.getElem?_take_of_lt (by omega)]; exact h1
    have ndP : ps.Nodup := by rw [← S.pre]; exact S.nd.sublist (List.take_sublist _ _)
    refine ⟨u, rv, ?_⟩
    rcases S.par y (List.mem_of_getElem? hp) with k | k
    · exact .inl ⟨k, bindL_get ndP hp hu k⟩
    · obtain ⟨c, e⟩ := cell_has (n := s.heap.objs.size + 1) k
      refine .inr ⟨.inl k, c, e, ?_⟩
      have q := x.cell y c e
      rw [bindC_get ndP hp hu (by show scope.names.lookup y ≠ _; rw [k]; decide)] at q
      exact q
  · exact e0.hok.fresh (Nat.le_of_lt (x.above y c (PySem.mem_of_lookup h)))
  · unfold start
    show _ = N.length
    rw [List.length_append, List.length_map, List.length_replicate]
    omega

/-- THE RULE: a def (or a method) of the text, by its body. The body's reading t is chosen for each entry; it is run at the parameters' values -/
theorem fn_of {CX : CXT} {P : Program} {w : World} {K : PySem.W.Frag} {mg : Str → Option Value} {base : Heap} {k : Nat} {f : Addr} {name qual : Str} {params : Arguments} {body : List Stmt} {scope : Scope} {dV kV doc pm cdv ct oc : Value} {an od : Option Addr}
    {osl : Array (Option Value)} {N ps : List Str} {sp : Sp} (lk : K.lookup f = some ⟨oc, od, .func (PySem.W.fnOf name qual params body scope dV kV doc pm an cdv ct), osl⟩) (hcd : PySem.W.codeIn K cdv qual = true) (S : FnScope N ps scope)
    (len : ∀ vs H Q E, sp vs H Q E → vs.length = ps.length)
    (hbody : ∀ (A : Around) (outer : List Env) (s : Shared) (H : Hp) (vs : List V) (Q : VK) (E : XK), Room k (A.deeper (envOfC qual scope s.heap.objs.size f cdv)) → sp vs H Q E →
      ∃ t, PSs (cxOf CX P w K mg base N qual scope f cdv A outer s H E) body t ∧ t { nx := fun _ H' => Q .non H', rt := Q } (start N vs) H) :
    FnOk P w K mg base CX (k + 1) f (PySem.W.fnOf name qual params body scope dV kV doc pm an cdv ct) ps sp := by
  refine ⟨len, fun A outer s H args us vs Q E hr e0 hb r hsp => ?_⟩
  have hl := len _ _ _ _ hsp
  have KX : K.In s.heap := e0.mod.kin.keeps fun b o e => (e0.bs b o e).1
  have lim : s.heap.NoLimit := e0.mod.nolimit.keeps fun b o e => (e0.bs b o e).1
  have hkind : ∀ y ∈ ps.zip us, scope.names.lookup y.1 = some .local ∨ (scope.names.lookup y.1 = some .cell ∧ ((cellsFrom (s.heap.objs.size + 1) scope.names []).lookup y.1).isSome = true) := fun ⟨n, v⟩ hy => by
    rcases S.par n (List.of_mem_zip hy).1 with q | q
    · exact .inl q
    · exact .inr ⟨q, PySem.W.cellsFrom_some _ _ _ (.inl q)⟩
  refine codeAny_call_function hr.depth (KX _ _ lk) rfl S.co S.gen rfl (PySem.W.codeRec_of KX hcd) (hb _ _ _ _ ?_)
  refine wpAny_newFunctionEnv_cells S.kind hkind fun env he s1 x => ?_
  subst he
  refine ⟨lim.keeps x.toInCall.keep, codeAny_func ?_⟩
  obtain ⟨t, ht, hq⟩ := hbody A outer s H vs Q E (hr.deeper _) hsp
  have I : Inv (cxOf CX P w K mg base N qual scope f cdv A outer s H E) [] (start N vs) H s1 := inv_start S hr.hd e0 hl r x
  refine wpAny_mono (ht [] s1 (start N vs) H _ I hq) (fun fl s' hs => ?_) fun e s' hs => hs
  have fin : ∀ {σ' : St} {H' : Hp} {v : V} {u : Value}, Inv (cxOf CX P w K mg base N qual scope f cdv A outer s H E) [] σ' H' s' → RelV v u → Q v H' → CE outer P w H s Q u s' :=
    fun {σ' H' v u} J rv q => ⟨v, H', J.os, J.bare, J.base, J.hok, rv, q⟩
  cases fl with
  | ret u =>
    obtain ⟨v, σ', H', J, rv, q⟩ := hs
    exact fin J rv q
  | next =>
    obtain ⟨σ', H', J, q⟩ := hs
    exact fin (v := V.non) (u := Value.none) J rfl q
  | brk =>
    obtain ⟨_, _, _, q⟩ := hs
    exact False.elim q
  | cont =>
    obtain ⟨_, _, _, q⟩ := hs
    exact False.elim q
end L2

namespace L2
open PySem PySem.Spec PyProof.Rows
section
variable {X : Cx} {x : Str} {p pos : Pos} {e : Expr} {es : List Expr} {t : TA} {id T : String} {r : List V → Hp → VK → Prop}

def tCB (r : List V → Hp → VK → Prop) (t : TA) : TE := fun σ H Q => t σ H fun vs H1 => r vs H1 Q
/-- f(e, ..), f a built-in function -/
theorem pe_callB (hc : CallR X (.builtin id) r) (hg : Gl X x) (hm : X.mg x = none) (hv : bootBuiltins x = some (.builtin id)) (ha : PA X (e :: es) t) (hn : x ≠ "__name__" := by decide) (hdb : (x == ("__debug__" : Str)) = false := by decide)
    (he : starEach (e :: es) X.env = (false, eval e X.env) :: starEach es X.env := by rfl) (hpl : (backTo pos (starEach es X.env)).any (·.1) = false := by rfl) : PE X (.Call (.Name x p) (e :: es) [] pos) (tCB r t) := by
  intro pins s σ H Q I h
  refine wpAny_Call_Name_kw (ld_blt I hg hm hv ?_ hn hdb)
  exact PyProof.Rows.callWith_builtin1 (thn (ha pos pins s σ H _ I h) fun us s1 ⟨vs, H1, I1, r1, q1⟩ => hc pins s1 σ H1 vs us Q I1 r1 q1) he hpl
end
end L2

namespace HT
open PySem PyProof.Rows

/-- t < u of tuples of ints -/
def lexLt : List Int → List Int → Bool
  | [], [] => false
  | [], _ :: _ => true
  | _ :: _, [] => false
  | x :: xs, y :: ys => if x = y then lexLt xs ys else decide (x < y)


section
open PySem.SeqAt
open PySem.AutoSeq1 (wpAny_loadPart')
open PySem.MeetsSeq PySem.MeetsSeq2 PySem.MeetsSeq3

end

section
variable {prog : Program} {w : World} {A : Around} {E : Value → Shared → Prop} {s : Shared}



/-! ### t[a:b], not the whole -/
/-- a slice's bound as a place among n (d where it is left out) -/
def sIx (n d : Nat) : Option Int → Nat
  | none => d
  | some v => if v < 0 then (v + (n : Int)).toNat else min v.toNat n

end
end HT

namespace L2
open PySem PySem.Spec PyProof.Rows

/-! ### the parts of a slice -/
abbrev TO := St → Hp → (Option Int → Hp → Prop) → Prop
/-- a slice's part (left out, or an int) -/
def PO (X : Cx) (e : Option Expr) (t : TO) : Prop :=
  ∀ (pins : List (Addr × Obj)) (s : Shared) (σ : St) (H : Hp) (Q : Option Int → Hp → Prop), Inv X pins σ H s → t σ H Q →
    wpAny (model X.prog X.w) X.A (evalPart e X.env) (fun u s' => ∃ o H', Inv X pins σ H' s' ∧ IsPart u o ∧ Q o H') X.xe s
def tNoPart : TO := fun _ H Q => Q none H
def tPart (t : TE) : TO := fun σ H Q => t σ H fun x H1 => ∃ i, x = .int i ∧ Q (some i) H1


section
variable {X : Cx} {e : Expr} {te : TE} {lo hi : Option Expr} {tl th : TO} {pos p2 : Pos}


/-- what a slice of a value is, by values: the slice object stands at sl -/
def SlR (X : Cx) (r : V → Option Int → Option Int → Hp → VK → Prop) : Prop :=
  ∀ (pins : List (Addr × Obj)) (s : Shared) (σ : St) (H : Hp) (x : V) (v vl vu : Value) (lo hi : Option Int) (sl : Addr) (Q : VK), Inv X pins σ H s → RelV x v → s.heap.IsSliceOf sl vl vu .none → IsPart vl lo → IsPart vu hi → r x lo hi H Q →
    ∃ T id, typeLookup (.type T) "__getitem__" = pure (some (.builtin id)) ∧ s.TypeIs v T ∧ wpAny (model X.prog X.w) X.A (getItem v (.ref sl)) (EP X pins σ Q) X.xe s
def tSl (r : V → Option Int → Option Int → Hp → VK → Prop) (te : TE) (tl th : TO) : TE := fun σ H Q => te σ H fun x H1 => tl σ H1 fun l H2 => th σ H2 fun u H3 => r x l u H3 Q

/-- the items of xs[lo:hi] -/
def cutV (xs : List V) (lo hi : Option Int) : List V := (xs.drop (HT.sIx xs.length 0 lo)).take (HT.sIx xs.length xs.length hi - HT.sIx xs.length 0 lo)
/-- t[lo:hi], not the whole of it (the whole would be t itself) -/
def rSlT (K : PySem.W.Frag) : V → Option Int → Option Int → Hp → VK → Prop := fun x lo hi H Q => ∃ a xs, x = .ref a ∧ SqT K H a xs ∧
  ¬ (HT.sIx xs.length 0 lo = 0 ∧ HT.sIx xs.length xs.length hi = xs.length) ∧ ∀ p, H p = none → Q (.ref p) (upd H p (.tup (cutV xs lo hi)))

/-! ### t < u, t + u -/
def rLtT (K : PySem.W.Frag) : R2 := fun x y H Q => ∃ a b ns ms, x = .ref a ∧ y = .ref b ∧ SqT K H a (ns.map V.int) ∧ SqT K H b (ms.map V.int) ∧ Q (.bl (HT.lexLt ns ms)) H
/-- t + u, t not empty: u empty gives t itself -/
def rCatT (K : PySem.W.Frag) : R2 := fun x y H Q => ∃ a b xs ys, x = .ref a ∧ y = .ref b ∧ SqT K H a xs ∧ SqT K H b ys ∧ xs ≠ [] ∧ xs.length + ys.length ≤ sizeLine ∧
  (ys = [] → Q (.ref a) H) ∧ (ys ≠ [] → ∀ p, H p = none → Q (.ref p) (upd H p (.tup (xs ++ ys))))
end
end L2

namespace L2
open PySem PySem.Spec PyProof.Rows

/-! ### places -/
/-- the place that an index of any sign means -/
def ixN (n : Nat) (i : Int) : Option Nat := if 0 ≤ i then (if i < n then some i.toNat else none) else if -(n : Int) ≤ i then some (i + n).toNat else none
def atI {α : Type} (xs : List α) (i : Int) : Option α := (ixN xs.length i).bind fun j => xs[j]?
theorem ixN_seq {n : Nat} {i : Int} {j : Nat} (h : ixN n i = some j) : seqIndex? i n = some j ∧ j < n ∧ -(n : Int) ≤ i ∧ i < n := by
  unfold ixN at h
  by_cases h0 : 0 ≤ i
  · rw [if_pos h0] at h
    by_cases h1 : i < n
    · rw [if_pos h1] at h
      have e : i.toNat = j := Option.some.inj h
      exact ⟨by rw [seqIndex_of h0 h1, e], by omega, by omega, h1⟩
    · rw [if_neg h1] at h; cases h
  · rw [if_neg h0] at h
    by_cases h1 : -(n : Int) ≤ i
    · rw [if_pos h1] at h
      have e : (i + n).toNat = j := Option.some.inj h
      exact ⟨by rw [seqIndex_neg (by omega) h1, e], by omega, h1, by omega⟩
    · rw [if_neg h1] at h; cases h
theorem atI_get {α : Type} {xs : List α} {i : Int} {v : α} (h : atI xs i = some v) : ∃ j, seqIndex? i xs.length = some j ∧ xs[j]? = some v ∧ j < xs.length ∧ -(xs.length : Int) ≤ i ∧ i < xs.length := by
  unfold atI at h
  cases e : ixN xs.length i with
  | none => rw [e] at h; cases h
  | some j =>
    rw [e] at h
    obtain ⟨h1, h2, h3, h4⟩ := ixN_seq e
    exact ⟨j, h1, h, h2, h3, h4⟩
theorem atI_nat {α : Type} {xs : List α} {j : Nat} {v : α} (h : xs[j]? = some v) : atI xs (j : Int) = some v := by
  have hj : j < xs.length := (List.getElem?_eq_some_iff.mp h).1
  have e : ixN xs.length (j : Int) = some j := by
    unfold ixN
    rw [if_pos (by omega), if_pos (by omega)]; simp
  unfold atI; rw [e]; exact h

/-! ### what may be subscripted -/
/-- what stands as an index of a plain subscript -/
def PlainIx (b : Expr) : Prop := ∀ o i, subscripted b false o i = operate [o, i] (getItem o i)
/-- a subscript by values -/
def IxR (X : Cx) (r : R2) : Prop :=
  ∀ (value slice : Expr) (pins : List (Addr × Obj)) (s : Shared) (σ : St) (H : Hp) (x y : V) (v u : Value) (Q : VK), Inv X pins σ H s → RelV x v → RelV y u → r x y H Q →
    subscripted slice false v u = operate [v, u] (getItem v u) → wpAny (model X.prog X.w) X.A (subscriptTail value slice v u) (EP X pins σ Q) X.xe s
/-- a call of a builtin's method by values: the receiver, the arguments -/
def MtR (X : Cx) (id : String) (r : V → List V → Hp → VK → Prop) : Prop :=
  ∀ (pins : List (Addr × Obj)) (s : Shared) (σ : St) (H : Hp) (x : V) (xs : List V) (v : Value) (us : List Value) (Q : VK), Inv X pins σ H s → RelV x v → Vals xs us → r x xs H Q →
    wpAny (model X.prog X.w) X.A (call (.builtin id) (v :: us)) (EP X pins σ Q) X.xe s
section
variable {X : Cx} {a b : Expr} {ta tb : TE} {pos : Pos}
/-- a[b] -/
theorem pe_ix {r : R2} (hr : IxR X r) (ha : PE X a ta) (hb : PE X b tb) (hs : PlainIx b) : PE X (.Subscript a b pos) (tOp r ta tb) := by
  intro pins s σ H Q I h
  exact Subscript_ (binT ha hb I h fun v u s2 x y H2 I2 rx ry q => hr a b pins s2 σ H2 x y v u Q I2 rx ry q (hs _ _))

def rIxL (K : PySem.W.Frag) : R2 := fun x y H Q => ∃ p xs i v, x = .ref p ∧ y = .int i ∧ SqL K H p xs ∧ atI xs i = some v ∧ Q v H
def rIxT (K : PySem.W.Frag) : R2 := fun x y H Q => ∃ p xs i v, x = .ref p ∧ y = .int i ∧ SqT K H p xs ∧ atI xs i = some v ∧ Q v H
def rIxS : R2 := fun x y H Q => ∃ z i c, x = .str z ∧ y = .int i ∧ z.length ≤ sizeLine ∧ atI z.cps.toList i = some c ∧ Q (.str ⟨#[c]⟩) H
theorem ix_list : IxR X (rIxL X.K) := by
  intro value slice pins s σ H x y v u Q I rx ry h hs
  obtain ⟨p, xs, i, z, rfl, rfl, hq, he, q⟩ := h
  cases rx
  obtain ⟨t, rfl⟩ := ry
  obtain ⟨its, r, pl, hz⟩ := I.list hq
  obtain ⟨j, h1, h2, h3, h4, h5⟩ := atI_get he
  obtain ⟨w, ew, rw'⟩ := r.get h2
  have hl := r.length
  have hn := line63
  have fin : EP X pins σ Q w s := ⟨z, H, I, rw', q⟩
  by_cases h0 : 0 ≤ i
  · have hj : i.toNat = j := by
      rw [seqIndex_of h0 h5] at h1
      exact Option.some.inj h1
    exact item_listR pl.isList h0 (by omega) (by rw [hj]; simpa using ew) fin hs
  · have hj : (i + (its.toArray.size : Int)).toNat = j := by
      rw [seqIndex_neg (by omega) h4] at h1
      rw [List.size_toArray, ← hl]
      exact Option.some.inj h1
    exact subscriptTail_builtinR (x := w) pl.isList.typeIs slot_list_getitem.lookup
      (wpAny_getItem_list_neg (Q := fun r s' => r = w ∧ EP X pins σ Q r s') pl.isList (by omega) (by rw [List.size_toArray] <;> omega) (by omega) (by rw [hj]; simpa using ew) ⟨rfl, fin⟩) hs
theorem ix_str : IxR X rIxS := by
  intro value slice pins s σ H x y v u Q I rx ry h hs
  obtain ⟨z, i, c, rfl, rfl, hz, he, q⟩ := h
  obtain ⟨t, rfl⟩ := rx
  obtain ⟨t', rfl⟩ := ry
  obtain ⟨j, h1, h2, h3, h4, h5⟩ := atI_get he
  have hl : z.cps.toList.length = z.length := by simp [Str.length]
  rw [hl] at h1 h4 h5
  have hn := line63
  exact tail_any (typeIs_str s z t) slot_str_getitem.lookup (getItem_str (c := c) (by
    have e1 : decide (i < -(2 ^ 63 : Int)) = false := decide_eq_false (by omega)
    have e2 : decide (i ≥ 2 ^ 63) = false := decide_eq_false (by omega)
    rw [e1, e2, Bool.or_false]) (by rw [h1]; simpa using h2) ⟨.str ⟨#[c]⟩, H, I.tok _, ⟨_, rfl⟩, q⟩) hs
/-- list, tuple or str -/
def rIx (K : PySem.W.Frag) : R2 := fun x y H Q => rIxL K x y H Q ∨ rIxT K x y H Q ∨ rIxS x y H Q

/-! ### xs[i] = v, any sign -/
/-- the list's object behind a store -/
theorem mapSeq_set (its : List Value) (n j : Nat) (u : Value) : Obj.mapSeq (·.setIfInBounds j u) { cls := .type "list", data := .seq its.toArray n } = { cls := .type "list", data := .seq (its.set j u).toArray n } := by
  simp [Obj.mapSeq]
theorem Inv.lst {pins : List (Addr × Obj)} {σ : St} {H : Hp} {s : Shared} {p : Addr} {xs : List V} (I : Inv X pins σ H s) (h : H p = some (.lst xs)) :
    ∃ (its : List Value) (n : Nat), Vals xs its ∧ s.heap.get? p = some { cls := .type "list", data := .seq its.toArray n } ∧ xs.length ≤ sizeLine := by
  obtain ⟨z, its, n, r, e⟩ := I.hok p _ h
  exact ⟨its, n, r, e, z⟩
/-- the list at p is written by an update of its object -/
theorem Inv.lstUpd {pins : List (Addr × Obj)} {σ : St} {H : Hp} {s : Shared} {p : Addr} {xs ys : List V} {its its' : List Value} {n n' : Nat} {f : Obj → Obj} (I : Inv X pins σ H s) (h : H p = some (.lst xs))
    (ho : s.heap.get? p = some { cls := .type "list", data := .seq its.toArray n }) (hf : f { cls := .type "list", data := .seq its.toArray n } = { cls := .type "list", data := .seq its'.toArray n' }) (r : Vals ys its') (hz : ys.length ≤ sizeLine) (t : Nat) :
    Inv X pins σ (upd H p (.lst ys)) { s with heap := s.heap.update p f, toks := t } := by
  have e : (s.heap.update p f).get? p = some { cls := .type "list", data := .seq its'.toArray n' } := by
    rw [Heap.get?_update_self f ho (by rw [hf] <;> rfl), hf]
  refine I.write (x := p) (e := p) (by rw [h]; trivial) (.inl rfl) (fun b u hb q => (Heap.get?_update_other _ _ (Ne.symm hb)).trans q) ⟨_, e⟩ ?_
  exact ⟨hz, its', n', r, e⟩
def rSetL : V → V → V → Hp → (Hp → Prop) → Prop := fun o i v H Q => ∃ p xs k j, o = .ref p ∧ i = .int k ∧ H p = some (.lst xs) ∧ ixN xs.length k = some j ∧ Q (upd H p (.lst (xs.set j v)))
theorem set_list : PSet X rSetL := by
  intro pins s σ H o i v ov iv u Q I ro ri rv h
  obtain ⟨p, xs, k, j, rfl, rfl, hp, hj, q⟩ := h
  cases ro
  obtain ⟨t, rfl⟩ := ri
  obtain ⟨its, n, r, ho, hz⟩ := I.lst hp
  obtain ⟨h1, h2, h3, h4⟩ := ixN_seq hj
  have hl := r.length
  have hn := line63
  have I' : Inv X pins σ (upd H p (.lst (xs.set j v))) { s with heap := s.heap.update p (Obj.mapSeq (·.setIfInBounds j u)) } :=
    I.lstUpd hp ho (mapSeq_set its n j u) (r.set rv j) (by rw [List.length_set]; exact hz) s.toks
  by_cases h0 : 0 ≤ k
  · have hk : k.toNat = j := by
      rw [seqIndex_of h0 h4] at h1
      exact Option.some.inj h1
    exact PySem.W.ki_setAt ho h0 (by omega) (by rw [List.size_toArray, ← hl]; exact h4) (by rw [hk]; exact ⟨_, I', q⟩)
  · have hk : (k + (its.toArray.size : Int)).toNat = j := by
      rw [seqIndex_neg (by omega) h3] at h1
      rw [List.size_toArray, ← hl]
      exact Option.some.inj h1
    exact PySem.W.ki_setBack ho (by omega) (by rw [List.size_toArray, ← hl]; exact h3) (by omega) (by rw [hk]; exact ⟨_, I', q⟩)

/-! ### slices -/
/-- xs[lo:hi] of a list: a new list -/
def rSlL (K : PySem.W.Frag) : V → Option Int → Option Int → Hp → VK → Prop := fun x lo hi H Q => ∃ a xs, x = .ref a ∧ SqL K H a xs ∧ ∀ p, H p = none → Q (.ref p) (upd H p (.lst (cutV xs lo hi)))

/-! ### in, not in: flat items -/
def flatV : V → Bool
  | .non => true
  | .bl _ => true
  | .int _ => true
  | .str _ => true
  | _ => false
/-- == of flat values -/
def eqV : V → V → Bool
  | .non, .non => true
  | .bl a, .bl b => a == b
  | .bl a, .int b => (if a then 1 else 0) == b
  | .int a, .bl b => a == (if b then 1 else 0)
  | .int a, .int b => a == b
  | .str a, .str b => a == b
  | _, _ => false
theorem eqAt_V {A : Around} {s : Shared} {y x : V} {u v : Value} (ry : RelV y u) (rx : RelV x v) (fy : flatV y = true) (fx : flatV x = true) : SeqAt.EqAt A s u v (eqV y x) := by
  cases y with
  | non =>
    cases ry
    cases x with
    | non => cases rx; exact SeqAt.EqAt.same _
    | bl b => cases rx; exact SeqAt.EqAt.none_bool b
    | int b => obtain ⟨t, rfl⟩ := rx; exact SeqAt.EqAt.none_int b t
    | str b => obtain ⟨t, rfl⟩ := rx; exact SeqAt.EqAt.none_str b t
    | _ => exact absurd (show false = true from fx) Bool.false_ne_true
  | bl a =>
    cases ry
    cases x with
    | non => cases rx; exact SeqAt.EqAt.bool_none a
    | bl b => cases rx; exact SeqAt.EqAt.bool_bool a b
    | int b => obtain ⟨t, rfl⟩ := rx; exact SeqAt.EqAt.bool_int a b t
    | str b => obtain ⟨t, rfl⟩ := rx; exact SeqAt.EqAt.bool_str a b t
    | _ => exact absurd (show false = true from fx) Bool.false_ne_true
  | int a =>
    obtain ⟨t', rfl⟩ := ry
    cases x with
    | non => cases rx; exact SeqAt.EqAt.int_none a t'
    | bl b => cases rx; exact SeqAt.EqAt.int_bool a t' b
    | int b => obtain ⟨t, rfl⟩ := rx; exact SeqAt.EqAt.int_int a t' b t
    | str b => obtain ⟨t, rfl⟩ := rx; exact SeqAt.EqAt.int_str a t' b t
    | _ => exact absurd (show false = true from fx) Bool.false_ne_true
  | str a =>
    obtain ⟨t', rfl⟩ := ry
    cases x with
    | non => cases rx; exact SeqAt.EqAt.str_none a t'
    | bl b => cases rx; exact SeqAt.EqAt.str_bool a t' b
    | int b => obtain ⟨t, rfl⟩ := rx; exact SeqAt.EqAt.str_int a t' b t
    | str b => obtain ⟨t, rfl⟩ := rx; exact SeqAt.EqAt.str_str a t' b t
    | _ => exact absurd (show false = true from fx) Bool.false_ne_true
  | _ => exact absurd (show false = true from fy) Bool.false_ne_true
/-- the items' answers, read off the values (a value's own answer does not lean on its token) -/
def eqU (x : V) (u : Value) : Bool := match u with
  | .none => eqV .non x
  | .bool b => eqV (.bl b) x
  | .int i _ => eqV (.int i) x
  | .str z _ => eqV (.str z) x
  | _ => false
theorem eqU_of {x y : V} {u : Value} (r : RelV y u) (f : flatV y = true) : eqU x u = eqV y x := by
  cases y with
  | non => cases r; rfl
  | bl b => cases r; rfl
  | int i => obtain ⟨t, rfl⟩ := r; rfl
  | str z => obtain ⟨t, rfl⟩ := r; rfl
  | _ => exact absurd (show false = true from f) Bool.false_ne_true
theorem any_eqU {x : V} : ∀ {xs : List V} {us : List Value}, Vals xs us → xs.all flatV = true → us.any (eqU x) = xs.any fun y => eqV y x
  | _, _, .nil, _ => rfl
  | y :: xs, u :: us, .cons r t, f => by
    rw [List.all_cons, Bool.and_eq_true] at f
    rw [List.any_cons, List.any_cons, eqU_of r f.1, any_eqU t f.2]
theorem mem_eqAt {A : Around} {s : Shared} {x : V} {v : Value} (rx : RelV x v) (fx : flatV x = true) : ∀ {xs : List V} {us : List Value}, Vals xs us → xs.all flatV = true → ∀ u ∈ us, SeqAt.EqAt A s u v (eqU x u)
  | _, _, .nil, _ => fun u hu => by cases hu
  | y :: xs, u :: us, .cons r t, f => fun u' hu => by
    rw [List.all_cons, Bool.and_eq_true] at f
    rcases List.mem_cons.mp hu with rfl | hu
    · rw [eqU_of r f.1]; exact eqAt_V r rx f.1 fx
    · exact mem_eqAt rx fx t f.2 u' hu
def inV (x : V) (xs : List V) : Bool := xs.any fun y => eqV y x
/-- x in a list or tuple of flat items -/
def rIn (K : PySem.W.Frag) (neg : Bool) : R2 := fun x y H Q => ∃ p xs, y = .ref p ∧ (SqL K H p xs ∨ SqT K H p xs) ∧ flatV x = true ∧ xs.all flatV = true ∧ Q (.bl (if neg then !inV x xs else inV x xs)) H
theorem op_in_seq : OpR X (compareOp .In) (rIn X.K false) := by
  intro pins s σ H x y v u Q I rx ry h
  obtain ⟨p, xs, rfl, hq, fx, fs, q⟩ := h
  cases ry
  rcases hq with hq | hq
  · obtain ⟨its, r, pl, hz⟩ := I.list hq
    refine SeqAt.in_listAt (eqU x) pl.isList (fun w hw => mem_eqAt rx fx r fs w (by simpa using hw)) ⟨.bl _, H, I, rfl, ?_⟩
    rw [show its.toArray.any (eqU x) = its.any (eqU x) by simp, any_eqU r fs]
    exact q
  · obtain ⟨its, r, pl, hz⟩ := I.tuple hq
    refine SeqAt.in_tupleAt (eqU x) pl (fun w hw => mem_eqAt rx fx r fs w (by simpa using hw)) ⟨.bl _, H, I, rfl, ?_⟩
    rw [show its.toArray.any (eqU x) = its.any (eqU x) by simp, any_eqU r fs]
    exact q
theorem op_notIn_seq : OpR X (compareOp .NotIn) (rIn X.K true) := by
  intro pins s σ H x y v u Q I rx ry h
  obtain ⟨p, xs, rfl, hq, fx, fs, q⟩ := h
  cases ry
  rcases hq with hq | hq
  · obtain ⟨its, r, pl, hz⟩ := I.list hq
    refine SeqAt.notIn_listAt (eqU x) pl.isList (fun w hw => mem_eqAt rx fx r fs w (by simpa using hw)) ⟨.bl _, H, I, rfl, ?_⟩
    rw [show its.toArray.any (eqU x) = its.any (eqU x) by simp, any_eqU r fs]
    exact q
  · obtain ⟨its, r, pl, hz⟩ := I.tuple hq
    refine SeqAt.notIn_tupleAt (eqU x) pl (fun w hw => mem_eqAt rx fx r fs w (by simpa using hw)) ⟨.bl _, H, I, rfl, ?_⟩
    rw [show its.toArray.any (eqU x) = its.any (eqU x) by simp, any_eqU r fs]
    exact q

/-! ### len, list(x), tuple(x) of any list or tuple that is read -/
theorem call_len_seq : CallR X (.builtin "len") (fun xs H Q => ∃ p ys, xs = [.ref p] ∧ (SqL X.K H p ys ∨ SqT X.K H p ys) ∧ Q (.int ys.length) H) := by
  intro pins s σ H xs us Q I r h
  obtain ⟨p, ys, rfl, hq, q⟩ := h
  obtain ⟨u, rfl, rx⟩ := vals1 r
  cases rx
  have hn := line63
  rcases hq with hq | hq
  · obtain ⟨its, r', pl, hz⟩ := I.list hq
    have hlen := r'.length
    exact Calls.call_len_list pl.isList (by simp only [List.size_toArray] <;> omega) ⟨.int ys.length, H, I.tok _, ⟨s.toks + 1, by rw [List.size_toArray, hlen]⟩, q⟩
  · obtain ⟨its, r', pl, hz⟩ := I.tuple hq
    have hlen := r'.length
    exact len_tuple pl (by simp only [List.size_toArray] <;> omega) ⟨.int ys.length, H, I.tok _, ⟨s.toks + 1, by rw [List.size_toArray, hlen]⟩, q⟩
theorem call_len_str : CallR X (.builtin "len") (fun xs H Q => ∃ z, xs = [.str z] ∧ z.length ≤ sizeLine ∧ Q (.int z.length) H) := by
  intro pins s σ H xs us Q I r h
  obtain ⟨z, rfl, hz, q⟩ := h
  obtain ⟨u, rfl, t, rfl⟩ := vals1 r
  have hn := line63
  exact len_str (by omega) ⟨.int z.length, H, I.tok _, ⟨_, rfl⟩, q⟩

/-! ### the call of a builtin's method: o.m(..) -/
/-- the value is of that builtin type -/
def tyV (K : PySem.W.Frag) (T : String) (x : V) (H : Hp) : Prop := match x with
  | .str _ => T = "str"
  | .int _ => T = "int"
  | .ref p => (T = "list" ∧ ∃ xs, SqL K H p xs) ∨ (T = "tuple" ∧ ∃ o, K.lookup p = some o ∧ o.cls = .type "tuple" ∧ o.dict = none) ∨
      (T = "dict" ∧ ((∃ kvs, H p = some (.dK kvs)) ∨ ∃ kvs, H p = some (.dT kvs))) ∨ (T = "set" ∧ ∃ S n, H p = some (.set S n))
  | _ => False
theorem tyV_is {pins : List (Addr × Obj)} {σ : St} {H : Hp} {s : Shared} {T : String} {x : V} {v : Value} (I : Inv X pins σ H s) (r : RelV x v) (ty : tyV X.K T x H) :
    s.TypeIs v T ∧ ∀ a, v = .ref a → ∃ ob, s.heap.get? a = some ob ∧ ob.dict = none := by
  cases x with
  | str z =>
    obtain ⟨t, rfl⟩ := r
    cases (show T = "str" from ty)
    exact ⟨typeIs_str s z t, fun _ e => nomatch e⟩
  | int i =>
    obtain ⟨t, rfl⟩ := r
    cases (show T = "int" from ty)
    exact ⟨typeIs_int s i t, fun _ e => nomatch e⟩
  | ref p =>
    cases r
    rcases ty with ⟨rfl, xs, hq⟩ | ⟨rfl, o, hk, hc, hd⟩ | ⟨rfl, hk⟩ | ⟨rfl, S, n, hk⟩
    · obtain ⟨its, _, pl, _⟩ := I.list hq
      refine ⟨pl.isList.typeIs, fun a e => ?_⟩
      cases e
      obtain ⟨o, n, e, c, hd, _⟩ := pl
      exact ⟨o, e, hd⟩
    · refine ⟨⟨o, I.kIn p o hk, hc⟩, fun a e => ?_⟩
      cases e
      exact ⟨o, I.kIn _ o hk, hd⟩
    · have z : ∃ o, s.heap.get? p = some o ∧ o.ExactDict := by
        rcases hk with ⟨kvs, hk⟩ | ⟨kvs, hk⟩
        · obtain ⟨_, _, _, _, o, _, _, e, ex, _⟩ := I.hok p _ hk
          exact ⟨o, e, ex⟩
        · obtain ⟨_, _, _, _, o, _, _, e, ex, _⟩ := I.hok p _ hk
          exact ⟨o, e, ex⟩
      obtain ⟨o, e, ex⟩ := z
      refine ⟨⟨o, e, ex.1⟩, fun a e2 => ?_⟩
      cases e2
      exact ⟨o, e, ex.2.1⟩
    · obtain ⟨o, _, _, _, e, ex, _⟩ := I.hok p _ hk
      refine ⟨⟨o, e, ex.1⟩, fun a e2 => ?_⟩
      cases e2
      exact ⟨o, e, ex.2.1⟩
  | _ => exact False.elim ty
def tBM0 (K : PySem.W.Frag) (T : String) (r : V → List V → Hp → VK → Prop) (to : TE) : TE := fun σ H Q => to σ H fun x H1 => tyV K T x H1 ∧ r x [] H1 Q
def tBM (K : PySem.W.Frag) (T : String) (r : V → List V → Hp → VK → Prop) (to : TE) (t : TA) : TE := fun σ H Q => to σ H fun x H1 => tyV K T x H1 ∧ t σ H1 fun xs H2 => r x xs H2 Q
variable {o e : Expr} {es : List Expr} {to : TE} {t : TA} {name : Str} {apos cpos : Pos} {T id : String} {r : V → List V → Hp → VK → Prop}
theorem pe_bm0 (pa : PlainAttrs T) (slot : Slot T name id) (hty : typeOf (.builtin id) = pure (.type "method_descriptor")) (hm : MtR X id r) (ho : PE X o to)
    (hbase : attributeBase o name X.env (eval o X.env) = eval o X.env := by rfl) (hline : (apos.endLine == cpos.line) = true := by rfl) : PE X (.Call (.Attribute o name apos) [] [] cpos) (tBM0 X.K T r to) := by
  intro pins s σ H Q I h
  refine wpAny_Call_method0_late hbase hline (thn (ho pins s σ H _ I h) fun v s1 ⟨x, H1, I1, r1, ty, q1⟩ => ?_)
  obtain ⟨h1, h2⟩ := tyV_is I1 r1 ty
  exact ⟨T, id, pa, slot, hty, h1, h2, Calls.callWith_builtin rfl (PySem.evalArgs_none (hm pins s1 σ H1 x [] v [] Q I1 r1 .nil q1))⟩
theorem pe_bm (pa : PlainAttrs T) (slot : Slot T name id) (hty : typeOf (.builtin id) = pure (.type "method_descriptor")) (hm : MtR X id r) (ho : PE X o to) (ha : PA X (e :: es) t)
    (hbase : attributeBase o name X.env (eval o X.env) = eval o X.env := by rfl)
    (hfew : ((backTo cpos (starEach (e :: es) X.env)).all (fun x => !x.1) && (backToKw cpos (keywordEach [] X.env)).all (fun x => x.1.isSome)
      && decide ((e :: es).length + ([] : List Keyword).length + (if ([] : List Keyword).isEmpty then 0 else 1) < 30)) = true := by rfl)
    (hline : (apos.endLine == cpos.line) = true := by rfl) (hs : starEach (e :: es) X.env = (false, eval e X.env) :: starEach es X.env := by rfl) (hplain : (backTo cpos (starEach es X.env)).any (·.1) = false := by rfl) :
    PE X (.Call (.Attribute o name apos) (e :: es) [] cpos) (tBM X.K T r to t) := by
  intro pins s σ H Q I h
  refine wpAny_Call_method_late hbase hfew hline rfl (thn (ho pins s σ H _ I h) fun v s1 ⟨x, H1, I1, r1, ty, q1⟩ => ?_)
  obtain ⟨h1, h2⟩ := tyV_is I1 r1 ty
  refine ⟨T, id, pa, slot, hty, h1, h2, ?_⟩
  have hA := ha cpos pins s1 σ H1 _ I1 q1
  rw [hs] at hA ⊢
  refine Calls.callWith_builtin (by show (false || (backTo cpos (starEach es X.env)).any (·.1)) = false; rw [hplain] <;> rfl) (Calls.evalArgs_plain ?_)
  exact thn hA fun us s2 ⟨vs, H2, I2, r2, q2⟩ => hm pins s2 σ H2 x vs v us Q I2 r1 r2 q2
/- xs.append(e), list.index on a module's tuple .. are MtR facts of 06m -/
end
end L2

namespace L2
open PySem PySem.Spec PyProof.Rows

def MtM (X : Cx) (id : String) (r : V → List V → Hp → VK → Prop) : Prop :=
  ∀ (pins : List (Addr × Obj)) (s : Shared) (σ : St) (H : Hp) (x : V) (xs : List V) (v : Value) (us : List Value) (Q : VK), Inv X pins σ H s → RelV x v → Vals xs us → r x xs H Q →
    wpAny (model X.prog X.w) X.A (call (.builtin id) (v :: us)) (EP X pins σ Q) X.xe s

/-! ### lists of values -/
theorem Vals.one : ∀ {x : V} {us : List Value}, Vals [x] us → ∃ u, us = [u] ∧ RelV x u
  | _, _, .cons r .nil => ⟨_, rfl, r⟩
theorem Vals.two : ∀ {x y : V} {us : List Value}, Vals [x, y] us → ∃ u v, us = [u, v] ∧ RelV x u ∧ RelV y v
  | _, _, _, .cons r (.cons q .nil) => ⟨_, _, rfl, r, q⟩
theorem Vals.zero : ∀ {us : List Value}, Vals [] us → us = []
  | _, .nil => rfl
theorem Vals.dropLast {xs : List V} {us : List Value} (h : Vals xs us) : Vals xs.dropLast us.dropLast := by
  induction h with
  | nil => exact .nil
  | cons r t ih =>
    cases t with
    | nil => exact .nil
    | cons q t' => exact .cons r ih
theorem Vals.eraseIdx : ∀ {xs : List V} {us : List Value} (i : Nat), Vals xs us → Vals (xs.eraseIdx i) (us.eraseIdx i)
  | _, _, _, .nil => .nil
  | _, _, 0, .cons _ t => t
  | _, _, i + 1, .cons r t => .cons r (Vals.eraseIdx i t)
theorem Vals.rep {xs : List V} {us : List Value} (h : Vals xs us) : ∀ k : Nat, Vals (List.replicate k xs).flatten (List.replicate k us).flatten
  | 0 => .nil
  | k + 1 => by
    rw [List.replicate_succ, List.replicate_succ, List.flatten_cons, List.flatten_cons]
    exact Vals.append h (Vals.rep h k)
theorem erase_last {α : Type} (l : List α) : l.eraseIdx (l.length - 1) = l.dropLast := by
  induction l with
  | nil => rfl
  | cons a r ih =>
    cases r with
    | nil => rfl
    | cons b r =>
      have e : (a :: b :: r).length - 1 = ((b :: r).length - 1) + 1 := by
        have h1 : (a :: b :: r).length = r.length + 2 := rfl
        have h2 : (b :: r).length = r.length + 1 := rfl
        omega
      rw [e, List.eraseIdx_cons_succ, ih]
      all_goals rfl
theorem len_erase {α : Type} : ∀ (l : List α) (i : Nat), (l.eraseIdx i).length ≤ l.length
  | [], _ => Nat.le_refl _
  | _ :: _, 0 => Nat.le_succ _
  | _ :: r, i + 1 => Nat.succ_le_succ (len_erase r i)
theorem foldl_rep (its : List Value) : ∀ (k : Nat) (acc : List Value),
    List.foldl (fun x1 x2 => x1 ++ x2) acc.toArray (List.replicate k its.toArray) = (acc ++ (List.replicate k its).flatten).toArray
  | 0, acc => by simp
  | k + 1, acc => by
    have e : acc.toArray ++ its.toArray = (acc ++ its).toArray := by simp
    have e2 : (acc ++ its) ++ (List.replicate k its).flatten = acc ++ (List.replicate (k + 1) its).flatten := by
      rw [List.replicate_succ, List.flatten_cons, List.append_assoc]
    rw [← e2, ← foldl_rep its k (acc ++ its), ← e, List.replicate_succ, List.foldl_cons]

section
variable {X : Cx} {pins : List (Addr × Obj)} {σ : St} {H : Hp} {s : Shared} {l b : Addr} {xs ys zs : List V}

/-! ### the two steps: a tracked list is rewritten, a new list is laid -/
theorem Inv.lset {its its' : List Value} {n : Nat} {f : Array Value → Array Value} {t' : Nat} (I : Inv X pins σ H s) (hH : H l = some (.lst xs))
    (e : s.heap.get? l = some { cls := .type "list", data := .seq its.toArray n }) (hf : f its.toArray = its'.toArray) (hv : Vals ys its') (hz : ys.length ≤ sizeLine) :
    Inv X pins σ (upd H l (.lst ys)) { s with heap := s.heap.update l (Obj.mapSeq f), toks := t' } := by
  have q := PySem.IsL.update e f
  rw [hf] at q
  refine I.write (x := l) (e := l) (by rw [hH]; exact trivial) (.inl rfl) (fun b' u hb hu => (Heap.get?_update_other s.heap (Obj.mapSeq f) (Ne.symm hb)).trans hu) ⟨_, q⟩ ?_
  exact ⟨hz, its', _, hv, q⟩
theorem Inv.lnew {its : List Value} {t' : Nat} (I : Inv X pins σ H s) (hv : Vals ys its) (hz : ys.length ≤ sizeLine) :
    Inv X pins σ (upd H s.heap.objs.size (.lst ys)) { s with heap := s.heap.push { cls := .type "list", data := .seq its.toArray }, toks := t' } :=
  I.laid (fun _ _ q => Heap.get?_push_of_some _ q) (Nat.le_refl _) ⟨hz, its, 0, hv, Heap.get?_push_size _ rfl⟩
theorem Inv.fresh (I : Inv X pins σ H s) : H s.heap.objs.size = none := I.hok.fresh (Nat.le_refl _)
theorem Inv.lstM (I : Inv X pins σ H s) (hH : H l = some (.lst xs)) : xs.length ≤ sizeLine ∧ ∃ (its : List Value) (n : Nat), Vals xs its ∧ xs.length = its.length ∧ s.heap.get? l = some { cls := .type "list", data := .seq its.toArray n } := by
  obtain ⟨z, its, n, r, e⟩ := I.hok l _ hH
  exact ⟨z, its, n, r, r.length, e⟩

theorem notLongL {n : Nat} (h : n ≤ sizeLine) : Builtin.List.listTooLong n = false := by
  unfold Builtin.List.listTooLong
  exact decide_eq_false (by omega)
end

section
variable {X : Cx}

/-! ### methods -/
def rAppend : V → List V → Hp → VK → Prop := fun x vs H Q => ∃ l xs y, x = .ref l ∧ vs = [y] ∧ H l = some (.lst xs) ∧ xs.length < sizeLine ∧ Q .non (upd H l (.lst (xs ++ [y])))
theorem mt_append : MtM X "list.append" rAppend := by
  intro pins s σ H x vs v us Q I rx rv h
  obtain ⟨l, xs, y, rfl, rfl, hH, hz, q⟩ := h
  cases rx
  obtain ⟨u, rfl, ru⟩ := rv.one
  obtain ⟨z, its, n, r, hl, e⟩ := I.lstM hH
  refine call_meets F.slot_list_append ⟨_, e, rfl⟩ F.entry_list_append (F.args_list_append_2 _ _) (PySem.list_append l its.toArray n u (by rw [List.size_toArray]; omega)) ⟨e, ?_⟩
  refine ⟨.non, _, I.lset (its' := its ++ [u]) hH e (by simp) (r.append (.cons ru .nil)) ?_, rfl, q⟩
  rw [List.length_append, List.length_singleton]
  omega

def rExtend : V → List V → Hp → VK → Prop := fun x vs H Q => ∃ l b xs zs, x = .ref l ∧ vs = [.ref b] ∧ H l = some (.lst xs) ∧ H b = some (.lst zs) ∧ xs.length + zs.length ≤ sizeLine ∧ Q .non (upd H l (.lst (xs ++ zs)))
theorem mt_extend : MtM X "list.extend" rExtend := by
  intro pins s σ H x vs v us Q I rx rv h
  obtain ⟨l, b, xs, zs, rfl, rfl, hH, hB, hz, q⟩ := h
  cases rx
  obtain ⟨u, rfl, ru⟩ := rv.one
  cases ru
  obtain ⟨z, its, n, r, hl, e⟩ := I.lstM hH
  obtain ⟨z2, its2, n2, r2, hl2, e2⟩ := I.lstM hB
  have hsz : its.toArray.size + its2.toArray.size ≤ sizeLine := by rw [List.size_toArray, List.size_toArray]; omega
  have hlong : ¬ (!its.toArray.isEmpty && Builtin.List.listTooLong (its.toArray.size + its2.toArray.size)) = true := by
    rw [notLongL hsz, Bool.and_false]
    exact Bool.false_ne_true
  refine call_meets F.slot_list_extend ⟨_, e, rfl⟩ F.entry_list_extend (F.args_list_extend_2 _ _)
    (AutoSeq1.list_extend_list_list_0 l its.toArray n b its2.toArray n2 hlong (by rw [List.size_toArray]; omega) (by omega)) ⟨e, e2, ?_⟩
  refine ⟨.non, _, I.lset (its' := its ++ its2) hH e (by simp) (r.append r2) ?_, rfl, q⟩
  rw [List.length_append]
  omega

def rPop : V → List V → Hp → VK → Prop := fun x vs H Q => ∃ l xs y, x = .ref l ∧ vs = [] ∧ H l = some (.lst xs) ∧ xs[xs.length - 1]? = some y ∧ Q y (upd H l (.lst xs.dropLast))
theorem mt_pop : MtM X "list.pop" rPop := by
  intro pins s σ H x vs v us Q I rx rv h
  obtain ⟨l, xs, y, rfl, rfl, hH, hy, q⟩ := h
  cases rx
  have hus := rv.zero
  subst hus
  obtain ⟨z, its, n, r, hl, e⟩ := I.lstM hH
  obtain ⟨u, hu, ru⟩ := r.get hy
  have hy' : its.toArray[its.toArray.size - 1]? = some u := by
    show its.toArray[its.length - 1]? = some u
    rw [← Array.getElem?_toList, ← hl]
    exact hu
  refine call_meets F.slot_list_pop ⟨_, e, rfl⟩ F.entry_list_pop (F.args_list_pop_1 _) (MeetsSeq.list_pop_last l its.toArray n u hy' (by rw [List.size_toArray]; omega)) ⟨e, ?_⟩
  refine ⟨y, _, I.lset (its' := its.dropLast) hH e ?_ r.dropLast ?_, ru, q⟩
  · show its.toArray.eraseIdxIfInBounds (its.toArray.size - 1) = its.dropLast.toArray
    rw [List.size_toArray, List.eraseIdxIfInBounds_toArray, erase_last]
  · rw [List.length_dropLast]
    omega

def rPopAt : V → List V → Hp → VK → Prop := fun x vs H Q => ∃ l xs i k y, x = .ref l ∧ vs = [.int i] ∧ H l = some (.lst xs) ∧ -(2 ^ 63) ≤ i ∧ i < 2 ^ 63 ∧ seqIndex? i xs.length = some k ∧ xs[k]? = some y ∧ Q y (upd H l (.lst (xs.eraseIdx k)))

def rReverse : V → List V → Hp → VK → Prop := fun x vs H Q => ∃ l xs, x = .ref l ∧ vs = [] ∧ H l = some (.lst xs) ∧ Q .non (upd H l (.lst xs.reverse))

def rClear : V → List V → Hp → VK → Prop := fun x vs H Q => ∃ l xs, x = .ref l ∧ vs = [] ∧ H l = some (.lst xs) ∧ Q .non (upd H l (.lst []))

/-! ### list + list, list += list, list * int -/
def rCat : R2 := fun x y H Q => ∃ l b xs zs, x = .ref l ∧ y = .ref b ∧ H l = some (.lst xs) ∧ H b = some (.lst zs) ∧ xs.length + zs.length ≤ sizeLine ∧ ∀ p, H p = none → Q (.ref p) (upd H p (.lst (xs ++ zs)))
theorem op_cat : OpR X (binaryOp .Add) rCat := by
  intro pins s σ H x y v u Q I rx ry h
  obtain ⟨l, b, xs, zs, rfl, rfl, hH, hB, hz, q⟩ := h
  cases rx
  cases ry
  obtain ⟨z, its, n, r, hl, e⟩ := I.lstM hH
  obtain ⟨z2, its2, n2, r2, hl2, e2⟩ := I.lstM hB
  refine PySem.P.add_list e e2 ?_ (by rw [List.size_toArray, List.size_toArray]; omega)
  have ea : its.toArray ++ its2.toArray = (its ++ its2).toArray := by simp
  rw [ea]
  exact ⟨.ref _, _, I.lnew (t' := s.toks) (r.append r2) (by rw [List.length_append]; omega), rfl, q _ I.fresh⟩
/-- a list times an int (a negative one is nothing) -/
def rRep : R2 := fun x y H Q => ∃ l k xs, x = .ref l ∧ y = .int k ∧ H l = some (.lst xs) ∧ -(2 ^ 63) ≤ k ∧ k < 2 ^ 63 ∧ xs.length * k.toNat ≤ sizeLine ∧
  ∀ p, H p = none → Q (.ref p) (upd H p (.lst (List.replicate k.toNat xs).flatten))
theorem len_rep {α : Type} (xs : List α) (k : Nat) : (List.replicate k xs).flatten.length = k * xs.length := by
  induction k with
  | zero => simp
  | succ k ih => rw [List.replicate_succ, List.flatten_cons, List.length_append, ih, Nat.succ_mul, Nat.add_comm]
theorem op_rep : OpR X (binaryOp .Mult) rRep := by
  intro pins s σ H x y v u Q I rx ry h
  obtain ⟨l, k, xs, rfl, rfl, hH, h1, h2, hz, q⟩ := h
  cases rx
  obtain ⟨t, rfl⟩ := ry
  obtain ⟨z, its, n, r, hl, e⟩ := I.lstM hH
  have hlen : its.toArray.size * k.toNat ≤ sizeLine := by rw [List.size_toArray, ← hl]; exact hz
  have hcap : ¬ its.toArray.size * k.toNat > (2 ^ 63 - 1) / 8 := by
    have : (sizeLine : Nat) ≤ (2 ^ 63 - 1) / 8 := by decide
    omega
  have hfit : ¬ (!Builtin.List.listFitsIndex k) = true := by
    rw [fitsIndex_both h1 h2]
    exact Bool.false_ne_true
  have hlong : ¬ Builtin.List.listTooLong (its.toArray.size * k.toNat) = true := by
    rw [notLongL hlen]
    exact Bool.false_ne_true
  have hnew : List.foldl (fun x1 x2 => x1 ++ x2) #[] (List.replicate (if its.toArray.isEmpty = true then 0 else k.toNat) its.toArray) = (List.replicate k.toNat its).flatten.toArray := by
    have f0 : ∀ m : Nat, List.foldl (fun x1 x2 => x1 ++ x2) #[] (List.replicate m its.toArray) = (List.replicate m its).flatten.toArray := fun m => by
      have := foldl_rep its m []
      rw [List.nil_append] at this
      exact this
    rw [f0]
    cases its with
    | nil => simp
    | cons a r' => rw [if_neg (by simp)]
  refine wpAny_binaryOp_repeat_ref (T := "list") (U := "int") (by decide) ⟨_, e, rfl⟩ (fun s' => typeIs_int s' k t) noFill_list_mul F.fills_int_mul F.slot_int_rmul repeat_list F.slot_int_index.lookup
    (call_meets F.slot_int_rmul (typeIs_int s k t) F.entry_int_rmul (F.args_int_rmul_2 _ _) (int___rmul___int_list k t l its.toArray n)
      ⟨e, rfl, ⟨_, e, rfl⟩, call_meets F.slot_list_mul ⟨_, e, rfl⟩ F.entry_list_mul (F.args_list_mul_2 _ _) (AutoListH.list___mul___list_int_3 l its.toArray n k t hfit hcap hlong) ⟨e, ?_⟩⟩)
  rw [hnew]
  exact ⟨.ref _, _, I.lnew (t' := s.toks) (r.rep k.toNat) (by rw [len_rep, Nat.mul_comm]; exact hz), rfl, q _ I.fresh⟩

/-! ### del xs[i] -/
end

/-! ### xs[a:b] = ys -/
section
variable {prog : Program} {w : World} {A : Around} {E : Value → Shared → Prop} {s : Shared}
end

section
variable {X : Cx}
end
end L2

namespace Att
open PySem PySem.W PySem.Calls PyProof.Rows

/-! ### the script -/
theorem ints_of_wellAll {P : Params} {h : Heap} : ∀ (ns : List Int) (vs : List Value), WellAll P h vs (ns.map WData.int) → IntsAre vs ns := by
  intro ns
  induction ns with
  | nil =>
    intro vs w
    rw [List.map_nil] at w
    cases w
    exact .nil
  | cons n ns ih =>
    intro vs w
    rw [List.map_cons] at w
    cases w with
    | cons a b =>
      cases a
      exact .cons _ _ (ih _ b)

theorem script_of {l : OpenLaw} {n : Nat} (hn : l.most = some n) {P : Params} {h : Heap} {args : List WData} {vals : List Value}
    (hpre : l.row.toRowW.claim.pre args = true) (hwl : WellAll P h vals args) :
    ∃ a vs ns, vals = [Value.ref a] ∧ args = [WData.list (ns.map WData.int)] ∧ h.get? a = some { cls := .type "list", data := .seq vs.toArray } ∧ IntsAre vs ns ∧ ns.length ≤ n := by
  have hsh : WShape.hasAll [] args [.list .int] = true := (pre_splitW hpre).1
  have hc : l.pre.holds [] { args := args } = true := (pre_splitW hpre).2
  obtain ⟨d, r, rfl, h1, h2⟩ := hasAllW_cons hsh
  obtain rfl := hasAllW_nil h2
  obtain ⟨xs, rfl, h3⟩ := hasW_list h1
  obtain ⟨ns, rfl⟩ := items_int h3
  have hlen : ns.length ≤ n := by
    unfold OpenLaw.pre at hc
    have h4 : (WTm.not (.lt (.lit (.int (n : Int))) (.len (.arg 0)))).holds [] { args := [.list (ns.map .int)] } = true := by
      have h4 := (holds_andW hc).1
      rw [hn] at h4
      exact h4
    have h5 := condW_of h4 (w_not (w_lt w_lit (w_len_list (w_arg rfl))))
    rw [List.length_map] at h5
    refine Nat.le_of_not_lt fun q => ?_
    have q' : (n : Int) < ((ns.length : Nat) : Int) := by omega
    first
      | (rw [decide_eq_true q'] at h5; exact absurd h5 (by decide))
      | (simp at h5; omega)
  cases hwl with
  | cons w1 w2 =>
    cases w2
    cases w1 with
    | list ho hall => exact ⟨_, _, ns, rfl, rfl, ho, ints_of_wellAll ns _ hall, hlen⟩

theorem post_true (l : OpenLaw) (args : List WData) : l.row.toRowW.claim.post args (.bool true) args = true :=
  postW_of (r := l.row.toRowW) (X := (true == true))
    (show WShape.has [] (.bool true) .bool = true by first | rfl | decide | simp [WShape.has, WShape.arms, WShape.armsAll])
    (show (WTm.eq .res (.lit (.bool true))).value [] { args := args, res := some (.bool true), after := args } = some (.bool (true == true)) from w_eq_bool (w_res rfl) w_lit) rfl

/-! ### the attachment: holds_open's last premise (the goal 'hc' behind k_head) from a wpAny of the law's body -/

/-- the same from a codeAny of the CALL (for a layer whose function contracts speak of calls) -/
theorem attach_call {l : OpenLaw} {n : Nat} {q : Program} {loose : List Str} {XP : (Str → Option Value) → Heap → Prop} {YP : World → Heap → Prop} {d : DefRec}
    (hn : l.most = some n) (hdf : d.params.defaults = [])
    (call : ∀ (w : World) (s₀ s₁ : Shared) (mg mb : Str → Option Value) (fa : Addr) (o : Obj) (pm cd doc : Value) (a : Addr) (vs : List Value) (ns : List Int),
      Ground q loose [] XP w s₀ mg mb s₁.heap → YP w s₁.heap →
      s₁.heap.get? fa = some o → o.data = .func (docDef d.name d.params d.body d.scope pm cd doc) → s₁.heap.CodeRec cd d.name → mg d.name = some (.ref fa) →
      s₁.heap.get? a = some { cls := .type "list", data := .seq vs.toArray } → IntsAre vs ns → ns.length ≤ n → s₁.gens = #[] →
      codeAny (model l.prog w) callerA (.call (.ref fa) ⟨[.ref a], []⟩) (fun r s' => r = .ok (.ret (.bool true)) ∧ OldK s₁.heap s'.heap ∧ s'.os = s₁.os ∧ AllBare s'.gens) s₁) :
    WalkO q loose XP YP l.row.toRowW d [] (fun f vs => PySem.call f vs) := by
  intro w s₀ s₁ mg mb G Y fa o pm cd doc dV kV ho hd hcd hD hmg hg args vals as hpre hlay hrd hwl hlo
  obtain rfl : dV = .none := Dflts.none hD hdf
  obtain rfl : kV = .none := Dflts.noKw hD
  obtain ⟨a, vs, ns, rfl, rfl, hobj, hints, hlen⟩ := script_of hn hpre hwl
  refine enter_call (codeAny_mono (call w s₀ s₁ mg mb fa o pm cd doc a vs ns G Y ho (fd_plain hd) hcd hmg hobj hints hlen hg) fun r s' hq => ?_)
  obtain ⟨rfl, h2, h3, h4⟩ := hq
  exact ⟨.inl ⟨.bool true, .bool true, [], rfl, fun _ => rfl, .bool true, post_true l _, fun _ => ⟨List.Pairwise.nil, fun _ hm => (nomatch hm)⟩⟩, h2, h3, h4⟩


/-! ### rules over ANY heap (no ledger) from facts about the written part K: the library's own take a ledger (News) for what they write -/
section
variable {prog : Program} {w : World} {A : Around} {E : Value → Shared → Prop} {s : Shared} {K : Frag}





/-! the whole heap as the ledger: makes every rule that writes through a ledger a rule over any heap -/
def noObjs (h : Heap) : Heap := { h with objs := #[] }
def ledger (h : Heap) (L d : Addr) : List (Addr × Obj) := (List.range h.objs.size).filterMap fun a => if a = L ∨ a = d then none else (h.get? a).map fun o => (a, o)

end
end Att

namespace L2
open PySem PySem.Spec PyProof.Rows

theorem vals_ints : ∀ {vs : List Value} {ns : List Int}, IntsAre vs ns → Vals (ns.map V.int) vs
  | _, _, .nil => .nil
  | _, _, .cons n t h => .cons ⟨t, rfl⟩ (vals_ints h)

/-- nothing is tracked but the script, known to the object (or it is an object of the module) -/
def Only (H : Hp) : Prop := ∀ b, H b = none ∨ ∃ o xs, H b = some (.frz o (.lst xs))

/-- THE HEAD: the law's promise, at the heap behind the top. F, the promise of the law's def, may use that base is part of the heap (so K.In base, base.Ns mainGlobals mg stand in Mod) -/
theorem law_call {P : Program} {w : World} {K : PySem.W.Frag} {mg mb : Str → Option Value} {CX : CXT} {k : Nat} {fa a : Addr} {fd : FuncData} {x : Str} {sp : Sp} {s₁ : Shared} {vs : List Value} {ns : List Int}
    (KX : K.In s₁.heap) (hns : s₁.heap.Ns mainGlobals mg) (hb : s₁.heap.Ns builtinsNs mb) (hbb : ∀ x : Str, x ≠ "__name__" → mb x = bootBuiltins x) (hlim : s₁.heap.NoLimit) (hg : s₁.gens = #[])
    (ha : s₁.heap.get? a = some { cls := .type "list", data := .seq vs.toArray }) (hi : IntsAre vs ns) (hl : ns.length ≤ sizeLine) (hr : Room k callerA)
    (F : ∀ base : Heap, K.In base → base.Ns mainGlobals mg → FnOk P w K mg base CX k fa fd [x] sp) (hbind : ∀ (s : Shared) (u : Value), BindsTo s fd ⟨[u], []⟩ [(x, u)])
    (hsp : ∀ H : Hp, Only H → SqL K H a (ns.map V.int) → sp [.ref a] H (fun v _ => v = .bl true) fun _ _ _ => False)
    (hCX : ∀ H e s', CX [] H s₁ (fun _ _ _ => False) e s' → False) :
    codeAny (model P w) callerA (.call (.ref fa) ⟨[.ref a], []⟩) (fun r s' => r = .ok (.ret (.bool true)) ∧ OldK s₁.heap s'.heap ∧ s'.os = s₁.os ∧ AllBare s'.gens) s₁ := by
  have rv := vals_ints hi
  have lenV := hi.length
  -- from an abstract heap in which nothing but the script may be tracked
  have core : ∀ H : Hp, Only H → SqL K H a (ns.map V.int) → HOk P w H s₁.heap → (∀ b, H b ≠ none → b = a) → (H a ≠ none → K.lookup a = none) →
      codeAny (model P w) callerA (.call (.ref fa) ⟨[.ref a], []⟩) (fun r s' => r = .ok (.ret (.bool true)) ∧ OldK s₁.heap s'.heap ∧ s'.os = s₁.os ∧ AllBare s'.gens) s₁ := by
    intro H hO hS hok hA hK
    have base_of : ∀ {b : Addr} {o : Obj}, s₁.heap.get? b = some o → H b = none → (hidT s₁.heap H).get? b = some o := fun e n => hidT_get e n
    have noA : ∀ {b : Addr} {o : Obj} {es : Array DictEntry} {ep : Nat}, s₁.heap.get? b = some o → o.data = .dict es ep → H b = none := fun {b o es ep} e d => by
      cases q : H b with
      | none => rfl
      | some u =>
        have e' : b = a := hA b (by rw [q]; simp)
        subst e'
        rw [ha] at e; cases e
        have d' : Data.seq vs.toArray _ = Data.dict es ep := d
        cases d'
    have nsK : ∀ {b : Addr} {m : Str → Option Value}, s₁.heap.Ns b m → (hidT s₁.heap H).Ns b m := fun {b m} ⟨o, es, ep, e, d, r⟩ => ⟨o, es, ep, base_of e (noA e d), d, r⟩
    have hKb : K.In (hidT s₁.heap H) := fun b o e => base_of (KX b o e) (by
      cases q : H b with
      | none => rfl
      | some u =>
        have e' : b = a := hA b (by rw [q]; simp)
        subst e'
        rw [hK (by rw [q]; simp)] at e; cases e)
    have hM : Mod K mg (hidT s₁.heap H) := ⟨hKb, nsK hns, ⟨mb, nsK hb, hbb⟩, let ⟨mc, h1, h2⟩ := hlim; ⟨mc, nsK h1, h2⟩⟩
    have e0 : Env0 P w K mg (hidT s₁.heap H) callerA [] s₁ H := ⟨rfl, hM, fun b o e => of_hidT e, Nat.le_of_eq (hidT_size _ _), trivial, fun b hb => absurd (show b ∈ ([] : List Addr) from hb) (by simp), hok, .of_eq hg⟩
    refine codeAny_mono ((F _ hKb (nsK hns)).run callerA [] s₁ H ⟨[.ref a], []⟩ [.ref a] [.ref a] _ _ hr e0 (hbind s₁ (.ref a)) (.cons rfl .nil) (hsp H hO hS)) fun r s' h => ?_
    cases r with
    | error e => exact (hCX H e s' h).elim
    | ok fl =>
      cases fl with
      | next => exact False.elim h
      | brk => exact False.elim h
      | cont => exact False.elim h
      | ret u =>
        obtain ⟨v, H', os, bare, un, hok', r', q⟩ := h
        have q' : v = .bl true := q
        subst q'
        obtain rfl : u = Value.bool true := r'
        refine ⟨rfl, OldK.of_keep fun b o e => ?_, os, bare⟩
        cases q : H b with
        | none => exact un.keep b o e q (by intro z; exact absurd (show b ∈ ([] : List Addr) from z) (by simp)) (by simp)
        | some u =>
          rcases hO b with z | ⟨ob, xs, z⟩
          · rw [q] at z; cases z
          · have z2 := un.frzs b ob _ z
            obtain ⟨e1, _⟩ := hok b _ z
            obtain ⟨e2, _⟩ := hok' b _ z2
            rw [e] at e1; cases e1
            exact e2
  cases hk : K.lookup a with
  | some o =>
    -- the script is one of the module's own objects
    have e := KX a o hk
    rw [ha] at e
    cases e
    refine core (fun _ => none) (fun _ => .inl rfl) (.inr ⟨_, vs.toArray, _, hk, rfl, rfl, rfl, by rw [List.size_toArray, lenV]; exact hl, by simpa using rv⟩) (fun b u z => by have z' : (none : Option HO) = some u := z; cases z') (fun b z => absurd rfl z) fun z => absurd rfl z
  | none =>
    refine core (fun b => if b = a then some (.frz { cls := .type "list", data := .seq vs.toArray } (.lst (ns.map V.int))) else none) (fun b => ?_) (.inl (.inr ⟨{ cls := .type "list", data := .seq vs.toArray }, if_pos rfl⟩)) (fun b u z => ?_) (fun b z => ?_) fun _ => hk
    · by_cases hb : b = a
      · exact .inr ⟨_, _, if_pos hb⟩
      · exact .inl (if_neg hb)
    · by_cases hb : b = a
      · have z' := (if_pos hb).symm.trans z
        cases z'
        subst hb
        exact ⟨ha, by rw [List.length_map]; exact hl, vs, _, rv, ha⟩
      · have z' := (if_neg hb).symm.trans z
        cases z'
    · by_cases hb : b = a
      · exact hb
      · exact absurd (if_neg hb) z
end L2

namespace L2
open PySem PySem.Spec PyProof.Rows

abbrev KOf {K : PySem.W.Frag} {h : Heap} (_ : K.In h) : PySem.W.Frag := K

/-- the goal that k_head leaves (case hc), from the law's promise. F gives the function object fd (K's own) once, then the promise over every base -/
theorem walk_of {l : PySem.W.OpenLaw} {n k : Nat} {q : Program} {loose : List Str} {XP : (Str → Option Value) → Heap → Prop} {YP : World → Heap → Prop} {d : DefRec} {K : Params → PySem.W.Frag} {CX : World → CXT} {sp : World → Sp} {x : Str}
    (hn : l.most = some n) (hn2 : n ≤ sizeLine) (hdf : d.params.defaults = []) (hr : Room k callerA)
    (hY : ∀ (w : World) (h : Heap), YP w h → (K w.params).In h)
    (F : ∀ (w : World) (mg : Str → Option Value) (fa : Addr) (h : Heap), (K w.params).In h → h.Ns mainGlobals mg → mg d.name = some (.ref fa) →
      ∃ fd : FuncData, (∀ (s : Shared) (u : Value), BindsTo s fd ⟨[u], []⟩ [(x, u)]) ∧
        ∀ base : Heap, (K w.params).In base → base.Ns mainGlobals mg → FnOk l.prog w (K w.params) mg base (CX w) k fa fd [x] (sp w))
    (hsp : ∀ (w : World) (H : Hp) (a : Addr) (ns : List Int), ns.length ≤ n → Only H → SqL (K w.params) H a (ns.map V.int) → sp w [.ref a] H (fun v _ => v = .bl true) fun _ _ _ => False)
    (hCX : ∀ (w : World) (H : Hp) (s : Shared) (e : Value) (s' : Shared), CX w [] H s (fun _ _ _ => False) e s' → False) :
    PySem.W.WalkO q loose XP YP l.row.toRowW d [] (fun f vs => PySem.call f vs) := by
  refine Att.attach_call hn hdf fun w s₀ s₁ mg mb fa o pm cd doc a vs ns G Y ho hd hcd hmg hobj hints hlen hg => ?_
  have KX := hY w _ Y
  obtain ⟨fd, hb, hF⟩ := F w mg fa _ KX G.T.g hmg
  exact law_call KX G.T.g G.T.b G.T.builtins G.T.nolimit hg hobj hints (Nat.le_trans hlen hn2) hr hF hb (fun H hO hS => hsp w H a ns hlen hO hS) fun H e s' => hCX w H s₁ e s'
end L2

/- THE LAST THEOREM (shape; LID, My.* are yours):
   My.Adr: a structure of the addresses that your layer names (classes, functions); My.Txt K t: a structure (Prop) of the equations over K;
   My.txt_mk : {K} {implicit addresses ..} (e1 : nsIn K mainGlobals "law" = some (some (.ref f))) (e2 : K.lookup f = some ⟨oc, od, .func (fnOf "law" "law" params body scope dV kV doc pm an cdv ct), sl⟩) (e3 : codeIn K cdv "law" = true) .. : ∃ t, My.Txt K t

set_option maxRecDepth 100000 in
set_option maxHeartbeats 0 in
theorem PySem.Challenge.cw_LID_holds : PySem.Challenge.rw_LID.Holds := by
  w_on; o_law; k_head; (case hw => w_witness2)
  k_fill
  refine L2.walk_of (l := PySem.Challenge.rw_LID) (n := 63) (k := 40) (x := "script") (CX := fun w => ..) (sp := fun _ => My.sp_law) rfl (by decide) rfl ⟨rfl, by decide, by decide⟩ (fun w h Y => PySem.W.kIn_of Y) ?F ?S ?C
  case F =>
    intro w mg fa h KX G hmg
    have T : ∃ t, My.Txt (L2.KOf KX) t := by
      dsimp only [L2.KOf]                          -- K must stand as «<heap const> w.params» for k_is
      refine' My.txt_mk ?e1 ?e2 ?e3 ..
      (case e1 => PySem.W.k_is)                    -- in the order: a name -> its address -> its object -> its parts
      (case e2 => PySem.W.k_is)
      ..
    obtain ⟨t, T⟩ := T
    have e0 := hmg.symm.trans (PySem.W.mg_of KX G T.law)
    cases e0                                       -- fa is the law's own address
    exact ⟨_, fun s u => .of_eq rfl, fun base kb nb => My.law_fn T kb nb⟩     -- if «.of_eq rfl» comes too early: refine' ⟨_, ?b, fun base kb nb => My.law_fn T kb nb⟩; exact fun s u => .of_eq rfl
  case S => exact fun w H a ns hl hO hS => ..
  case C => exact ..
(the tactic k_is has no namespace: write k_is) -/

/-! SHORT WORDS over the layer: a def of the text, its body, what a loop and a test want. -/
namespace L2
open PySem PySem.Spec PyProof.Rows

/-! ### the text by places -/
/-- the j-th statement of a class's body -/
def inClass (s : Stmt) (j : Nat) : Stmt := match s with
  | .ClassDef _ _ _ body _ _ _ _ _ _ _ => body.getD j (.Pass ⟨0, 0, 0, 0⟩)
  | _ => .Pass ⟨0, 0, 0, 0⟩
def defArgs (s : Stmt) : Arguments := match s with
  | .FunctionDef _ a _ _ _ _ _ _ _ _ => a
  | _ => { posonlyargs := [], args := [], vararg := none, kwonlyargs := [], kw_defaults := [], kwarg := none, defaults := [] }
def defBody (s : Stmt) : List Stmt := match s with
  | .FunctionDef _ _ b _ _ _ _ _ _ _ => b
  | _ => []
def defScope (s : Stmt) : Scope := match s with
  | .FunctionDef _ _ _ _ _ _ sc _ _ _ => sc
  | _ => { kind := .function, names := [], isGenerator := false, isCoroutine := false }

/-! ### no exception leaves a def -/
abbrev CX0 : CXT := fun _ _ _ _ _ _ => False
abbrev E0 : XK := fun _ _ _ => False
theorem pass0 {X : Cx} : Passes CX0 X E0 := fun _ _ _ _ _ _ _ h => h.elim

/-! ### a def (or method) of the text as it stands behind the top -/
structure Fun (K : PySem.W.Frag) (x qual : Str) (st : Stmt) (f : Addr) (fd : FuncData) : Prop where
  ex : ∃ (oc : Value) (od : Option Addr) (kV doc pm : Value) (an : Option Addr) (cdv ct : Value) (osl : Array (Option Value)),
    fd = PySem.W.fnOf x qual (defArgs st) (defBody st) (defScope st) .none kV doc pm an cdv ct ∧ K.lookup f = some ⟨oc, od, .func fd, osl⟩ ∧ PySem.W.codeIn K cdv qual = true
  kp : PySem.W.keepIn K (.ref f) = true
section
variable {P : Program} {w : World} {K : PySem.W.Frag} {mg : Str → Option Value} {base : Heap}
end
theorem small1000 {n : Nat} (h : n ≤ 1000) : n < sizeLine := Nat.lt_of_le_of_lt h (by decide)

/-! ### expressions in short: the name that stands in the i-th slot -/
section
variable {X : Cx}
theorem pv (i : Nat) {x : Str} {pos : Pos} (hN : X.N[i]? = some x := by rfl) (hv : Vis X.env.scope x := by first | exact Or.inl rfl | exact Or.inr (Or.inl rfl) | exact Or.inr (Or.inr rfl)) (hd : (x == ("__debug__" : Str)) = false := by decide)
    (hcd : (x == ("__classdict__" : Str)) = false := by decide) : PE X (.Name x pos) (tVar i) := pe_var hN hv hd hcd
end

/-! ### tests -/
theorem iteF {A B : Prop} (h : B) : if false = true then A else B := by
  rw [if_neg Bool.false_ne_true]
  exact h
theorem iteT {A B : Prop} (h : A) : if true = true then A else B := by
  rw [if_pos rfl]
  exact h
theorem ite2 {c A B : Prop} [Decidable c] (h1 : c → A) (h2 : ¬ c → B) : if c then A else B := by
  by_cases h : c
  · rw [if_pos h]
    exact h1 h
  · rw [if_neg h]
    exact h2 h

/-! ### heaps -/
/-- all that was tracked is as it was -/
def Same (H H' : Hp) : Prop := ∀ b o, H b = some o → H' b = some o
theorem Same.refl (H : Hp) : Same H H := fun _ _ h => h
theorem Same.trans {H H1 H2 : Hp} (a : Same H H1) (b : Same H1 H2) : Same H H2 := fun c o h => b c o (a c o h)
theorem Same.free {H H' : Hp} (e : Same H H') {l : Addr} (h : H' l = Option.none) : H l = Option.none := by
  cases q : H l with
  | none => rfl
  | some o =>
    rw [e l o q] at h
    cases h
theorem Same.seq {K : PySem.W.Frag} {H H' : Hp} {a : Addr} {xs : List V} (e : Same H H') (h : SqL K H a xs) : SqL K H' a xs := by
  rcases h with (h | ⟨o, h⟩) | h
  · exact .inl (.inl (e _ _ h))
  · exact .inl (.inr ⟨o, e _ _ h⟩)
  · exact .inr h

end L2

set_option Elab.async false
set_option linter.all false
set_option maxRecDepth 100000
namespace L2
open PySem PySem.Spec PyProof.Rows

/-! ## A list comprehension of one clause, in a def's body -/
/-- the cells a block closes over -/
def closAcc (env : Env) : List (Str × NameKind) → List (Str × Addr) → List (Str × Addr)
  | [], acc => acc
  | (n, k) :: r, acc => if k == .free then (match env.cells.lookup n with | some c => closAcc env r ((n, c) :: acc) | none => closAcc env r acc) else closAcc env r acc
def closOf (scope : Scope) (env : Env) : List (Str × Addr) := closAcc env scope.names []

theorem closAcc_in {env : Env} : ∀ (ns : List (Str × NameKind)) (acc : List (Str × Addr)), (∀ x c, (x, c) ∈ acc → env.cells.lookup x = some c) → ∀ x c, (x, c) ∈ closAcc env ns acc → env.cells.lookup x = some c
  | [], acc, h, x, c, hm => h x c hm
  | (n, k) :: r, acc, h, x, c, hm => by
    unfold closAcc at hm
    split at hm
    · split at hm
      · rename_i c' e
        refine closAcc_in r _ (fun y d hy => ?_) x c hm
        rcases List.mem_cons.mp hy with z | z
        · cases z; exact e
        · exact h y d z
      · exact closAcc_in r acc h x c hm
    · exact closAcc_in r acc h x c hm
theorem lookup_mem {α β : Type} [BEq α] [LawfulBEq α] : ∀ {l : List (α × β)} {x : α} {c : β}, l.lookup x = some c → (x, c) ∈ l
  | [], _, _, h => by simp at h
  | (y, d) :: r, x, c, h => by
    rw [List.lookup_cons] at h
    cases e : x == y with
    | true => rw [e] at h; simp at h; rw [eq_of_beq e, h]; exact List.mem_cons_self
    | false => rw [e] at h; exact List.mem_cons_of_mem _ (lookup_mem h)
theorem mem_lookup {α β : Type} [BEq α] [LawfulBEq α] : ∀ {l : List (α × β)} {x : α} {c : β}, (x, c) ∈ l → ∃ d, l.lookup x = some d
  | (y, d) :: r, x, c, h => by
    rw [List.lookup_cons]
    cases e : x == y with
    | true => exact ⟨d, rfl⟩
    | false =>
      rcases List.mem_cons.mp h with z | z
      · cases z; simp at e
      · exact mem_lookup z
theorem clos_sub {scope : Scope} {env : Env} {x : Str} {c : Addr} (h : (closOf scope env).lookup x = some c) : env.cells.lookup x = some c :=
  closAcc_in scope.names [] (fun _ _ z => nomatch z) x c (lookup_mem h)
theorem closAcc_acc {env : Env} : ∀ (ns : List (Str × NameKind)) (acc : List (Str × Addr)) (p : Str × Addr), p ∈ acc → p ∈ closAcc env ns acc
  | [], _, _, h => h
  | (n, k) :: r, acc, p, h => by
    unfold closAcc
    split
    · split
      · exact closAcc_acc r _ p (List.mem_cons_of_mem _ h)
      · exact closAcc_acc r acc p h
    · exact closAcc_acc r acc p h
theorem closAcc_has {env : Env} : ∀ (ns : List (Str × NameKind)) (acc : List (Str × Addr)) (x : Str) (c : Addr), (x, NameKind.free) ∈ ns → env.cells.lookup x = some c → (x, c) ∈ closAcc env ns acc
  | (n, k) :: r, acc, x, c, h, e => by
    unfold closAcc
    rcases List.mem_cons.mp h with z | z
    · cases z
      rw [if_pos (by decide), e]
      exact closAcc_acc r _ _ List.mem_cons_self
    · split
      · split
        · exact closAcc_has r _ x c z e
        · exact closAcc_has r acc x c z e
      · exact closAcc_has r acc x c z e
theorem clos_eq {scope : Scope} {env : Env} {x : Str} {c : Addr} (h : scope.names.lookup x = some .free) (e : env.cells.lookup x = some c) : (closOf scope env).lookup x = some c := by
  obtain ⟨d, hd⟩ := mem_lookup (closAcc_has scope.names [] x c (lookup_mem h) e)
  have q := clos_sub (scope := scope) hd
  rw [e] at q
  cases q
  exact hd
theorem forIn_clos {env : Env} : ∀ (ns : List (Str × NameKind)) (acc : List (Str × Addr)), (∀ x ∈ ns, x.2 = .free → ∃ c, env.cells.lookup x.1 = some c) →
    (forIn ns acc fun (x : Str × NameKind) (r : List (Str × Addr)) => if (x.2 == NameKind.free) = true then (do let a ← cellOf env x.1; pure (ForInStep.yield ((x.1, a) :: r))) else (pure (ForInStep.yield r) : Sem _)) = pure (closAcc env ns acc)
  | [], acc, _ => rfl
  | (n, k) :: r, acc, h => by
    rw [List.forIn_cons]
    unfold closAcc
    by_cases hk : (k == NameKind.free) = true
    · obtain ⟨c, hc⟩ := h (n, k) List.mem_cons_self (by simpa using hk)
      dsimp only at hc ⊢
      rw [if_pos hk, if_pos hk]
      unfold cellOf
      rw [hc]
      show _ = pure (closAcc env r ((n, c) :: acc))
      rw [← forIn_clos r ((n, c) :: acc) fun x hx => h x (List.mem_cons_of_mem _ hx)]
      rfl
    · dsimp only
      rw [if_neg hk, if_neg hk, ← forIn_clos r acc fun x hx => h x (List.mem_cons_of_mem _ hx)]
      rfl
theorem clos_ok {scope : Scope} {env : Env} (h : ∀ x ∈ scope.names, x.2 = .free → ∃ c, env.cells.lookup x.1 = some c) : closureFor scope env = pure (closOf scope env) := by
  have q := forIn_clos (env := env) scope.names [] h
  unfold closureFor
  exact congrArg (fun m => m >>= fun cs => pure cs) q |>.trans (by rfl)
end L2

set_option Elab.async false
set_option linter.all false
set_option maxRecDepth 100000
namespace L2
open PySem PySem.Spec PyProof.Rows

/-- the loop of a list comprehension's block, whatever its target -/
theorem compLoop_any {prog : Program} {w : World} {A : Around} {R : Result → Shared → Prop} {s : Shared} {elt target iter : Expr} {ifs : List Expr} {scope : Scope} {pos : Pos} {it acc : Value} {env : Env} (I : Nat → Shared → Prop)
    (turn : ∀ n s, I n s → wpAny (model prog w) A (pyNext it) (fun r s₁ => match r with
      | none => R (.ok .next) s₁
      | some v => wpAny (model prog w) A (letOwnedTupleGo target it v) (fun _ s₁' => wpAny (model prog w) A (assign target env v) (fun _ s₂ =>
          wpAny (model prog w) A (forIn ifs true fun c r => if r = true then do let ok ← isTrue c env (eval c env); pure (ForInStep.yield ok) else pure (ForInStep.yield r)) (fun ok s₃ =>
            if ok = true then wpAny (model prog w) A (eval elt env) (fun x s₄ =>
              wpAny (model prog w) A (call (.builtin "list.append") [acc, x]) (fun _ s₅ => ∃ m, m < n ∧ I m s₅) (fun _ _ => False) s₄) (fun _ _ => False) s₃
            else ∃ m, m < n ∧ I m s₃) (fun _ _ => False) s₂) (fun _ _ => False) s₁') (fun _ _ => False) s₁) (fun _ _ => False) s)
    (n : Nat) (h : I n s) : codeAny (model prog w) A (.compLoop (.ListComp elt [⟨target, iter, ifs, 0⟩] scope pos) 0 it acc env) R s := by
  refine codeAny_loop rfl I (fun n s hI => ?_) n h
  show wpAny _ A ((compTurn (.ListComp elt [⟨target, iter, ifs, 0⟩] scope pos) 0 it acc env).onRaise (fun x => do noteFrame x env; theTreesLotGoes x)) _ _ s
  refine wpAny_noted ?_
  rw [compTurn_list]
  refine wpAny_bind (wpAny_standAt (wpAny_bind (wpAny_mono (turn n s hI) (fun r s₁ h₁ => ?_) fun _ _ h' => h'.elim)))
  cases r with
  | none => exact wpAny_pure h₁
  | some v =>
    refine wpAny_bind (wpAny_mono h₁ (fun _ s₁' h₁' => ?_) fun _ _ h' => h'.elim)
    refine wpAny_bind (wpAny_mono h₁' (fun _ s₂ h₂ => wpAny_bind (wpAny_mono h₂ (fun ok s₃ h₃ => ?_) fun _ _ h' => h'.elim)) fun _ _ h' => h'.elim)
    cases ok with
    | false => exact wpAny_pure ⟨rfl, h₃⟩
    | true =>
      exact wpAny_bind (wpAny_bind (wpAny_mono h₃ (fun x s₄ h₄ => wpAny_bind (wpAny_mono h₄ (fun _ s₅ h₅ => wpAny_pure (wpAny_pure ⟨rfl, h₅⟩)) fun _ _ h' => h'.elim)) fun _ _ h' => h'.elim))

/-- the clauses' tests -/
def PF (X : Cx) (ifs : List Expr) (t : TT) : Prop :=
  ∀ (pins : List (Addr × Obj)) (s : Shared) (σ : St) (H : Hp) (Q : Bool → Hp → Prop), Inv X pins σ H s → t σ H Q →
    wpAny (model X.prog X.w) X.A (forIn ifs true fun c r => if r = true then do let ok ← isTrue c X.env (eval c X.env); pure (ForInStep.yield ok) else pure (ForInStep.yield r)) (TP X pins σ Q) X.xe s
def tAlways : TT := fun _ H Q => Q true H
theorem pf_nil {X : Cx} : PF X [] tAlways := fun pins s σ H Q I h => wpAny_pure ⟨H, I, h⟩
theorem pf_one {X : Cx} {c : Expr} {t : TT} (h : PT X c t) : PF X [c] t := fun pins s σ H Q I hw => by
  rw [List.forIn_cons, if_pos rfl]
  refine wpAny_bind (wpAny_bind (thn (h pins s σ H _ I hw) fun b s1 q => ?_))
  exact wpAny_pure (wpAny_pure q)

/-- the block's context -/
def compCx (X : Cx) (scope : Scope) (N' : List Str) (C : Addr) (s : Shared) (H : Hp) (fp : List Addr) (pins : List (Addr × Obj)) : Cx :=
  { prog := X.prog, w := X.w, K := X.K, mg := X.mg, base := X.base, A := X.A, N := N', s₀ := s, H₀ := H, env := compEnvC scope (closOf scope X.env) C X.env, outer := X.stack, stack := X.stack, ex := fp, fn := fun _ => false, calm := X.calm,
    pn := X.pn ++ pins, xe := fun _ _ => False }
/-- the block's names ahead of its first turn: js says where each stands in the def's -/
def compSt (js : List (Option Nat)) (σ : St) : St := js.map fun j => match j with
  | none => none
  | some j => match σ[j]? with
    | some v => v
    | none => none
def jsOk (N N' : List Str) (scope : Scope) (js : List (Option Nat)) : Bool :=
  (N'.zip js).all fun p => match p.2 with
    | none => true
    | some j => decide (N[j]? = some p.1) && decide (scope.names.lookup p.1 = some .free)
/-- what is seen of the block's names by looking at the text -/
structure CompOk (X : Cx) (scope : Scope) (N' : List Str) (js : List (Option Nat)) : Prop where
  kind : scope.kind = .function
  nocell : ∀ y ∈ scope.names, y.2 ≠ .cell
  loc : ∀ y ∈ scope.names, y.2 = .local → scope.names.lookup y.1 = some .local
  free : ∀ y ∈ scope.names, y.2 = .free → X.env.scope.names.lookup y.1 = some .cell
  len : js.length = N'.length
  jok : jsOk X.N N' scope js = true

theorem relabel_lookup {env : Env} {x : Str} {k : NameKind} : ∀ {names : List (Str × NameKind)},
    (names.map fun (n, k) => if (k == NameKind.free && env.scope.kind == .function && env.kindOf n == some .cell) then (n, NameKind.cell) else (n, k)).lookup x = some k →
    names.lookup x = some k ∨ (names.lookup x = some .free ∧ k = .cell)
  | [], h => by simp at h
  | (n, k') :: r, h => by
    have ih := @relabel_lookup env x k r
    have h' : List.lookup x ((if (k' == NameKind.free && env.scope.kind == .function && env.kindOf n == some .cell) = true then (n, NameKind.cell) else (n, k')) :: (r.map fun (n, k) => if (k == NameKind.free && env.scope.kind == .function && env.kindOf n == some .cell) then (n, NameKind.cell) else (n, k))) = some k := h
    cases hx : x == n with
    | true =>
      by_cases hc : (k' == NameKind.free && env.scope.kind == .function && env.kindOf n == some .cell) = true
      · rw [if_pos hc] at h'
        simp only [List.lookup_cons, hx] at h' ⊢
        have hk : k' = NameKind.free := by
          simp only [Bool.and_eq_true] at hc
          simpa using hc.1.1
        cases h'
        exact .inr ⟨by rw [hk], rfl⟩
      · rw [if_neg hc] at h'
        simp only [List.lookup_cons, hx] at h' ⊢
        exact .inl h'
    | false =>
      by_cases hc : (k' == NameKind.free && env.scope.kind == .function && env.kindOf n == some .cell) = true
      · rw [if_pos hc] at h'
        simp only [List.lookup_cons, hx] at h' ⊢
        exact ih h'
      · rw [if_neg hc] at h'
        simp only [List.lookup_cons, hx] at h' ⊢
        exact ih h'

section
variable {X : Cx} {scope : Scope} {N' : List Str} {js : List (Option Nat)} {pins : List (Addr × Obj)} {σ : St} {H : Hp} {s : Shared} {fp : List Addr}

theorem CompOk.cellHas (c : CompOk X scope N' js) (ok : X.Ok) {y : Str × NameKind} (hy : y ∈ scope.names) (hk : y.2 = .free) : ∃ a, X.env.cells.lookup y.1 = some a := ok.has y.1 (.inl (c.free y hy hk))
theorem CompOk.clos (c : CompOk X scope N' js) (ok : X.Ok) : closureFor scope X.env = pure (closOf scope X.env) := clos_ok fun _ hy hk => c.cellHas ok hy hk

theorem comp_cxOk (c : CompOk X scope N' js) (I : Inv X pins σ H s) (hf : ∀ b ∈ fp, FpOk X pins H b) (hlt : ∀ b ∈ fp, b < s.heap.objs.size) : (compCx X scope N' s.heap.objs.size s H fp pins).Ok where
  mod := I.ok.mod
  kind := c.kind
  glob := I.ok.glob
  blt := I.ok.blt
  above := Nat.le_refl _
  inj := fun x y a h1 h2 => I.ok.inj x y a (clos_sub (scope := scope) h1) (clos_sub (scope := scope) h2)
  has := fun x h => by
    have key : scope.names.lookup x = some .free := by
      rcases h with h | h
      · rcases relabel_lookup (env := X.env) h with q | q
        · exact absurd rfl (c.nocell _ (lookup_mem q))
        · exact q.1
      · rcases relabel_lookup (env := X.env) h with q | q
        · exact q
        · exact q.1
    obtain ⟨a, ha⟩ := c.cellHas I.ok (lookup_mem key) rfl
    exact ⟨a, clos_eq key ha⟩
  cab := fun x a h _ => absurd h Bool.false_ne_true
  hd := I.ok.hd
  frames := I.ok.frames
  stk := .inl rfl
  exf := fun b hb => ⟨fun z => Nat.lt_irrefl _ (show b < b from (show b = s.heap.objs.size from z) ▸ hlt b hb), fun x a h => (hf b hb).2.2.2.2.1 x a (clos_sub (scope := scope) h)⟩
  bs := I.bs
  bsz := Nat.le_trans I.ok.bsz I.sz
  noex := fun b o e hb => by
    obtain ⟨_, _, _, f3, _, _⟩ := hf b hb
    rcases f3 with z | z
    · exact I.ok.noex b o e z
    · exact absurd (Nat.lt_of_lt_of_le (Heap.lt_size (I.ok.bs b o e).1) z) (Nat.lt_irrefl _)
  exfs := fun b hb z => by
    obtain ⟨_, f1, f2, _⟩ := hf b hb
    rcases List.mem_cons.mp (I.stkSub b z) with q | q
    · exact f1 q
    · exact f2 q
  funs := I.stack
  frf := I.stkFree

/-- the names at the block's entry -/
theorem comp_start (c : CompOk X scope N' js) (I : Inv X pins σ H s) (hf : ∀ b ∈ fp, FpOk X pins H b) (hlt : ∀ b ∈ fp, b < s.heap.objs.size) {h' : Heap} {tk : Nat} {m : Str → Option Value}
    (hn : h'.Ns s.heap.objs.size m) (hk : ∀ b o, s.heap.get? b = some o → h'.get? b = some o) :
    Inv (compCx X scope N' s.heap.objs.size s H fp pins) [] (compSt js σ) H { s with heap := h', toks := tk } where
  ok := comp_cxOk c I hf hlt
  os := rfl
  bare := I.bare
  base := Un.kept hk
  loc := by
    refine ⟨m, hn, fun i x v e1 e2 e3 => ?_⟩
    have e1' : N'[i]? = some x := e1
    unfold compSt at e2
    rw [List.getElem?_map] at e2
    cases ej : js[i]? with
    | none => rw [ej] at e2; simp at e2
    | some j =>
      rw [ej] at e2
      cases j with
      | none => simp at e2
      | some j =>
        simp only [Option.map_some, Option.some.injEq] at e2
        have hz : (x, some j) ∈ N'.zip js := by
          have : (N'.zip js)[i]? = some (x, some j) := by rw [List.getElem?_zip_eq_some]; exact ⟨e1', ej⟩
          exact List.mem_of_getElem? this
        have q := List.all_eq_true.mp c.jok _ hz
        simp only [Bool.and_eq_true, decide_eq_true_eq] at q
        obtain ⟨q1, q2⟩ := q
        cases es : σ[j]? with
        | none => rw [es] at e2; simp at e2
        | some y =>
          rw [es] at e2
          simp only at e2
          subst e2
          have hcell : X.env.scope.names.lookup x = some .cell := c.free _ (lookup_mem q2) rfl
          obtain ⟨m0, _, hl⟩ := I.loc
          obtain ⟨u, r, l⟩ := hl j x v q1 es (.inr (.inl hcell))
          refine ⟨u, r, ?_⟩
          rcases l with ⟨z, _⟩ | ⟨_, a, ha, ⟨o, ho, hd⟩⟩
          · have z' : X.env.scope.names.lookup x = some .local := z
            rw [hcell] at z'; cases z'
          · refine .inr ⟨?_, a, clos_eq q2 ha, ⟨o, hk _ _ ho, hd⟩⟩
            rcases e3 with e3 | e3 | e3
            · rcases relabel_lookup (env := X.env) e3 with z | z
              · rw [q2] at z; cases z
              · cases z.2
            · exact .inl e3
            · exact .inr e3
  cell := fun x a h => by
    obtain ⟨v, o, ho, hd⟩ := I.cell x a (clos_sub (scope := scope) h)
    exact ⟨v, o, hk _ _ ho, hd⟩
  free := I.hok.fresh (Nat.le_refl _)
  freeC := fun x a h => I.freeC x a (clos_sub (scope := scope) h)
  pin := fun p hp => by
    have hp' : p ∈ X.pn ++ pins := by simpa [compCx] using hp
    obtain ⟨e, n, ne, nf, d⟩ := I.pin p hp'
    refine ⟨hk _ _ e, n, fun z => ?_, fun z => ?_, d⟩
    · have z' : p.1 = s.heap.objs.size := z
      exact absurd (Heap.lt_size e) (by rw [z']; exact Nat.lt_irrefl _)
    · rcases List.mem_cons.mp (I.stkSub _ z) with q | q
      · exact ne q
      · exact nf q
  hok := I.hok.kept hk
  len := by
    unfold compSt
    rw [List.length_map, c.len]
    rfl
end
end L2

set_option Elab.async false
set_option linter.all false
set_option maxRecDepth 100000
namespace L2
open PySem PySem.Spec PyProof.Rows
/-- the turns of a block: W the word by the turn, a measure, the items so far -/
def CompW (J : It) (g : TG) (tf : TT) (te : TE) (p : Addr) (W : Nat → Nat → List V → St → Hp → Prop) (Fin : Hp → Prop) : Prop := ∀ i m ys σ H, W i m ys σ H → H p = some (.lst ys) ∧
  ((J.stop i H ∧ Fin H) ∨ (J.go i H ∧ ∀ x H1, J.yld i H x H1 → g x σ H1 fun σ2 H2 => tf σ2 H2 fun b H3 =>
    if b = true then te σ2 H3 fun y H4 => H4 p = some (.lst ys) ∧ ys.length < sizeLine ∧ ∃ m', m' < m ∧ W (i + 1) m' (ys ++ [y]) σ2 (upd H4 p (.lst (ys ++ [y])))
    else ∃ m', m' < m ∧ W (i + 1) m' ys σ2 H3))
section
variable {X : Cx} {scope : Scope} {N' : List Str} {js : List (Option Nat)} {pins : List (Addr × Obj)} {σ : St} {H : Hp} {s : Shared} {fp : List Addr}

theorem comp_run {elt tg iter : Expr} {ifs : List Expr} {pos : Pos} {J : It} {it : Addr} {tn : Nat → Heap → Prop} {g : TG} {tf : TT} {te : TE} {RR : Value → Addr → Result → Shared → Prop} {E : Value → Shared → Prop} {Fin : Addr → Hp → Prop}
    (c : CompOk X scope N' js) (hc : X.calm = true) (I : Inv X pins σ H s) (T : Turn X.prog X.w X.K tg J fp it tn) (st : tn 0 s.heap) (hf : ∀ b ∈ fp, FpOk X pins H b)
    (hg : ∀ C s H fp pins, PG (compCx X scope N' C s H fp pins) tg g) (ht : ∀ C s H fp pins, PF (compCx X scope N' C s H fp pins) ifs tf) (he : ∀ C s H fp pins, PE (compCx X scope N' C s H fp pins) elt te)
    (hw : ∀ p, H p = none → ∃ W : Nat → Nat → List V → St → Hp → Prop, (∃ m, W 0 m [] (compSt js σ) (upd H p (.lst []))) ∧ CompW J g tf te p W (Fin p))
    (hRR : ∀ (p C : Addr) (s' : Shared) (H' : Hp), Inv X pins σ H' s' → FpOk X pins H' C → (∃ m, s'.heap.Ns C m) → Fin p H' → RR (.ref p) C (.ok .next) s') :
    wpAny (model X.prog X.w) X.A (newList []) (fun acc s₃ => wpAny (model X.prog X.w) X.A (newFunctionEnv scope X.env.globals (closOf scope X.env) [] X.env.qual none .none (some X.env)) (fun cenv s₄ =>
      codeAny (model X.prog X.w) X.A (.compStart (.ListComp elt [⟨tg, iter, ifs, 0⟩] scope pos) 0 (.ref it) acc { cenv with scope := relabel scope X.env }) (RR acc cenv.locals) s₄) E s₃) E s := by
  refine wpAny_newObj_type (wpAny_newFunctionEnv c.nocell (by intro y hy; simp at hy) (fun h₁ hns₁ hsb₁ => ?_) c.kind)
  have hlt : ∀ b ∈ fp, b < s.heap.objs.size := fun b hb => by
    obtain ⟨o, e, _⟩ := T.obj _ _ st b hb
    exact Heap.lt_size e
  have I3 : Inv X pins σ (upd H s.heap.objs.size (.lst [])) { s with heap := s.heap.push { cls := .type "list", data := .seq ([] : List Value).toArray } } := I.lnew (its := []) (t' := s.toks) .nil (Nat.zero_le _)
  generalize hs3 : ({ s with heap := s.heap.push { cls := .type "list", data := .seq ([] : List Value).toArray } } : Shared) = s3 at I3
  have hh3 : s3.heap = s.heap.push { cls := .type "list", data := .seq ([] : List Value).toArray } := by rw [← hs3]
  have hlt3 : ∀ b ∈ fp, b < s3.heap.objs.size := fun b hb => by rw [hh3, Heap.size_push]; exact Nat.lt_succ_of_lt (hlt b hb)
  have hf3 : ∀ b ∈ fp, FpOk X pins (upd H s.heap.objs.size (.lst [])) b := fun b hb => by
    obtain ⟨f0, f1⟩ := hf b hb
    exact ⟨by rw [upd_ne (Nat.ne_of_lt (hlt b hb))]; exact f0, f1⟩
  have hC : (s.heap.push { cls := .type "list", dict := none, data := .seq ([] : List Value).toArray }).objs.size = s3.heap.objs.size := by rw [hh3]
  replace hns₁ : h₁.Ns s3.heap.objs.size (fun x => List.lookup x ([] : List (Str × Value)).reverse) := by rw [← hC]; exact hns₁
  replace hsb₁ : Heap.SameBut s3.heap.objs.size (s3.heap.push { cls := .type (if (some X.env).isSome then "dict" else "frame"), data := .dict #[] }) h₁ := by rw [hh3]; exact hsb₁
  have hk : ∀ b o, s3.heap.get? b = some o → h₁.get? b = some o := fun b o e => by
    exact hsb₁.extBut b o (Nat.ne_of_lt (Heap.lt_size e)) (Heap.get?_push_of_some _ e)
  have IB := comp_start (tk := s3.toks + ([] : List (Str × Value)).length) c I3 hf3 hlt3 hns₁ hk
  have okB := IB.ok
  generalize hX' : compCx X scope N' s3.heap.objs.size s3 (upd H s.heap.objs.size (.lst [])) fp pins = X' at IB okB
  have gX : PG X' tg g := by rw [← hX']; exact hg _ _ _ _ _
  have tX : PF X' ifs tf := by rw [← hX']; exact ht _ _ _ _ _
  have eX : PE X' elt te := by rw [← hX']; exact he _ _ _ _ _
  have hP : X'.prog = X.prog := by rw [← hX']; rfl
  have hW : X'.w = X.w := by rw [← hX']; rfl
  have hKK : X'.K = X.K := by rw [← hX']; rfl
  have hA : X'.A = X.A := by rw [← hX']; rfl
  have hcm : X'.calm = true := by rw [← hX']; exact hc
  have hE : X'.env = compEnvC scope (closOf scope X.env) s3.heap.objs.size X.env := by rw [← hX']; rfl
  have hXe : X'.xe = fun _ _ => False := by rw [← hX']; rfl
  have stat : ∀ {H' : Hp}, (∀ b ∈ fp, H' b = none) → ∀ b ∈ fp, FpOk X' [] H' b := fun {H'} hn b hb => by
    obtain ⟨f0, f1, f2, f3, f4, f5⟩ := hf3 b hb
    refine ⟨hn b hb, ?_, ?_, .inl ?_, ?_, ?_⟩
    · rw [← hX']; exact Nat.ne_of_lt (hlt3 b hb)
    · intro z
      exact okB.exfs b (by rw [← hX']; exact hb) z
    · rw [← hX']; exact hb
    · intro x a h
      exact (okB.exf b (by rw [← hX']; exact hb)).2 x a h
    · intro q hq
      refine f5 q ?_
      rw [← hX'] at hq
      simpa [compCx] using hq
  have fin : ∀ {σ' : St} {H' : Hp} {s' : Shared}, Inv X' [] σ' H' s' → Fin s.heap.objs.size H' → RR (.ref s.heap.objs.size) s3.heap.objs.size (.ok .next) s' := fun {σ' H' s'} I' q => by
    have IX : Inv X pins σ H' s' := by
      refine I3.call' (ch := fp) (H' := H') ?_ ?_ ?_ I'.bare ?_
      · have := I'.os
        rw [← hX'] at this
        exact this
      · have := I'.base
        rw [← hX'] at this
        exact this
      · have := I'.hok
        rw [← hX'] at this
        exact this
      · intro b hb
        obtain ⟨f0, f1, f2, f3, f4, f5⟩ := hf3 b hb
        exact ⟨f3, f1, f4, f5⟩
    have fr : H' s3.heap.objs.size = none := by
      have := I'.free
      rw [hE] at this
      exact this
    refine hRR _ _ _ H' IX (I3.fpOk (Nat.le_refl _) fr) ?_ q
    obtain ⟨m, hm, _⟩ := I'.loc
    rw [hE] at hm
    exact ⟨m, hm⟩
  obtain ⟨W, ⟨m0, w0⟩, turn⟩ := hw s.heap.objs.size (I.hok.fresh (Nat.le_refl _))
  have st1 : tn 0 h₁ := T.keep _ _ _ st fun b hb o e => hk b o (by rw [hh3]; exact Heap.get?_push_of_some _ e)
  have loop : ∀ s4 : Shared, s4 = { s3 with heap := h₁, toks := s3.toks + ([] : List (Str × Value)).length } →
      codeAny (model X.prog X.w) X.A (.compLoop (.ListComp elt [⟨tg, iter, ifs, 0⟩] scope pos) 0 (.ref it) (.ref s.heap.objs.size) X'.env) (RR (.ref s.heap.objs.size) s3.heap.objs.size) s4 := by
    rintro s4 rfl
    refine compLoop_any (fun n s' => ∃ i ys σ' H', Inv X' [] σ' H' s' ∧ tn i s'.heap ∧ (∀ b ∈ fp, H' b = none) ∧ W i n ys σ' H') ?_ m0 ⟨0, [], _, _, IB, st1, fun b hb => (hf3 b hb).1, w0⟩
    rintro n s5 ⟨i, ys, σ5, H5, I5, st5, fr5, w5⟩
    obtain ⟨hacc, h⟩ := turn i n ys σ5 H5 w5
    rcases h with ⟨stop, qn⟩ | ⟨go, step⟩
    · have td := T.done X' hP hW hKK hcm i [] s5 σ5 H5 (fun _ _ => False) I5 (stat fr5) st5 stop
      rw [hA] at td
      refine thn td fun r s6 ⟨hr, I6⟩ => ?_
      subst hr
      exact fin I6 qn
    · have td := T.item X' hP hW hKK hcm i [] s5 σ5 H5 (fun _ _ => False) I5 (stat fr5) st5 go
      rw [hA] at td
      refine thn td fun r s6 ⟨u, hr, h6⟩ => ?_
      subst hr
      refine thn h6 fun _ s7 ⟨x, H7, I7, r7, y7, st7, fr7⟩ => ?_
      have I7' := I7.pinned (stat fr7) (T.obj _ _ st7)
      have g7 := gX _ s7 σ5 H7 x u _ I7' r7 (step x H7 y7)
      have t7 := tX
      have e7 := eX
      unfold PF at t7
      unfold PE at e7
      rw [hXe, hP, hW, hA] at g7 t7 e7
      refine thn g7 fun _ s8 ⟨σ8, H8, I8, q8⟩ => ?_
      refine thn (t7 _ s8 σ8 H8 _ I8 q8) fun b s9 ⟨H9, I9, q9⟩ => ?_
      have back : ∀ {σ' : St} {H' : Hp} {s' : Shared} {ys' : List V}, Inv X' ([] ++ pinsAt fp s7.heap) σ' H' s' → (∃ m', m' < n ∧ W (i + 1) m' ys' σ' H') → ∃ m, m < n ∧ ∃ i ys σ' H', Inv X' [] σ' H' s' ∧ tn i s'.heap ∧ (∀ b ∈ fp, H' b = none) ∧ W i m ys σ' H' := fun {σ' H' s' ys'} I' ⟨m', hm, w'⟩ => by
        refine ⟨m', hm, i + 1, ys', σ', H', I'.unpinned, T.keep _ _ _ st7 fun b hb o e => (I'.pin (b, o) (List.mem_append_right _ (List.mem_append_right _ (mem_pinsAt hb e)))).1, fun b hb => ?_, w'⟩
        obtain ⟨o, e, d⟩ := T.obj _ _ st7 b hb
        exact (I'.pin (b, o) (List.mem_append_right _ (List.mem_append_right _ (mem_pinsAt hb e)))).2.1
      cases b with
      | false =>
        rw [if_neg Bool.false_ne_true] at q9
        rw [if_neg Bool.false_ne_true]
        exact back I9 q9
      | true =>
        rw [if_pos rfl] at q9
        rw [if_pos rfl]
        refine thn (e7 _ s9 σ8 H9 _ I9 q9) fun v s10 ⟨y, H10, I10, r10, a10, z10, q10⟩ => ?_
        have m10 := mt_append (X := X') (([] : List (Addr × Obj)) ++ pinsAt fp s7.heap) s10 σ8 H10 (.ref s.heap.objs.size) [y] (.ref s.heap.objs.size) [v] (fun _ H' => H' = upd H10 s.heap.objs.size (.lst (ys ++ [y]))) I10 rfl (.cons r10 .nil) ⟨_, ys, y, rfl, rfl, a10, z10, rfl⟩
        rw [hXe, hP, hW, hA] at m10
        refine thn m10 fun _ s11 ⟨_, H11, I11, _, e11⟩ => ?_
        subst e11
        exact back I11 q10
  show codeAny _ _ (.compStart _ 0 (.ref it) _ (compEnvC scope (closOf scope X.env) s3.heap.objs.size X.env)) (RR (.ref s.heap.objs.size) s3.heap.objs.size) _
  rw [← hE]
  exact codeAny_compStart_list (loop _ rfl) (T.self X.A 0 _ _ _ st1 (loop _ rfl))

def tComp (js : List (Option Nat)) (wi : TI) (g : TG) (tf : TT) (te : TE) : TE := fun σ H Q => wi σ H fun J H1 => ∀ p, H1 p = none →
  ∃ W : Nat → Nat → List V → St → Hp → Prop, (∃ m, W 0 m [] (compSt js σ) (upd H1 p (.lst []))) ∧ CompW J g tf te p W (fun H' => Q (.ref p) H')
/-- a list comprehension as a value -/
theorem pe_comp {elt tg iter : Expr} {ifs : List Expr} {pos : Pos} {wi : TI} {g : TG} {tf : TT} {te : TE} (c : CompOk X scope N' js) (hc : X.calm = true) (hi : PI X tg iter wi)
    (hg : ∀ C s H fp pins, PG (compCx X scope N' C s H fp pins) tg g) (ht : ∀ C s H fp pins, PF (compCx X scope N' C s H fp pins) ifs tf) (he : ∀ C s H fp pins, PE (compCx X scope N' C s H fp pins) elt te)
    (hs : ∀ x, foldedSetIterable iter X.env x = pure x := by intro _; rfl) : PE X (.ListComp elt [⟨tg, iter, ifs, 0⟩] scope pos) (tComp js wi g tf te) := by
  intro pins s σ H Q I h
  rw [eval_ListComp]
  refine wpAny_comprehension_free (use := none) rfl hs (c.clos I.ok) c.kind c.loc (thn (hi pins s σ H _ I h) fun v s1 h1 => thn h1 fun itv s2 h2 => ?_)
  obtain ⟨it, fp, tn, J, H2, e, I2, T, st2, f2, hw⟩ := h2
  subst e
  refine comp_run (RR := fun acc C => compPost (model X.prog X.w) X.A X.xe none (EP X pins σ Q) acc C) (Fin := fun p H' => Q (.ref p) H') c hc I2 T st2 f2 hg ht he hw ?_
  intro p C s' H' I' fC ⟨m, hm⟩ q
  refine ⟨m, hm, fun h' hs' => ?_⟩
  obtain ⟨f0, f1, f2, f3, f4, f5⟩ := fC
  exact ⟨.ref p, H', I'.turned (t' := s'.toks) (fun b o hb e => hs'.extBut b o hb e) f0 f1 f3 f4 f5, rfl, q⟩
/-- name = a list comprehension (the name a plain local one, on the same row) -/
theorem ps_comp {i : Nat} {y : Str} {elt tg iter : Expr} {ifs : List Expr} {py pos spos : Pos} {wi : TI} {g : TG} {tf : TT} {te : TE} (hN : X.N.Nodup) (hy : X.N[i]? = some y) (hl : X.env.scope.names.lookup y = some .local)
    (hsw : swapsWith (.ListComp elt [⟨tg, iter, ifs, 0⟩] scope pos) (some (.Name y py)) spos.line X.env = pure true)
    (c : CompOk X scope N' js) (hc : X.calm = true) (hi : PI X tg iter wi)
    (hg : ∀ C s H fp pins, PG (compCx X scope N' C s H fp pins) tg g) (ht : ∀ C s H fp pins, PF (compCx X scope N' C s H fp pins) ifs tf) (he : ∀ C s H fp pins, PE (compCx X scope N' C s H fp pins) elt te)
    (hs : ∀ x, foldedSetIterable iter X.env x = pure x := by intro _; rfl) : PS X (.Assign [.Name y py] (.ListComp elt [⟨tg, iter, ifs, 0⟩] scope pos) spos) (tAsg (tComp js wi g tf te) (gName i)) := by
  intro pins s σ H D I h
  rw [exec_Assign_Name_used _ _ _ _ hsw]
  refine wpAny_bind (wpAny_standAt (wpAny_bind ?_))
  show wpAny _ X.A (do let _ ← comprehension (.ListComp elt [⟨tg, iter, ifs, 0⟩] scope pos) scope X.env _ (newList []) false (eval iter X.env) (some (assign (.Name y py) X.env))) _ _ s
  refine wpAny_bind (thn (wpAny_comprehension_free (use := some (assign (.Name y py) X.env)) (Q := fun _ s' => SP X pins D .next s') rfl hs (c.clos I.ok) c.kind c.loc
    (thn (hi pins s σ H _ I h) fun v s1 h1 => thn h1 fun itv s2 h2 => ?_)) fun _ s' hq => wpAny_pure (wpAny_pure hq))
  obtain ⟨it, fp, tn, J, H2, e, I2, T, st2, f2, hw⟩ := h2
  subst e
  refine comp_run (RR := fun acc C => compPost (model X.prog X.w) X.A X.xe (some (assign (.Name y py) X.env)) (fun _ s' => SP X pins D .next s') acc C) (Fin := fun p H' => D.nx (σ.set i (some (.ref p))) H') c hc I2 T st2 f2 hg ht he hw ?_
  intro p C s' H' I' fC ⟨m, hm⟩ q
  show wpAny _ X.A (assign (.Name y py) X.env (.ref p)) _ _ s'
  refine wpAny_assign_Name (store_ok2 I' hN hy (.inl hl) (v := .ref p) rfl (fun s'' I'' ⟨a, sb, ha⟩ => ?_) (.inr hl))
  obtain ⟨f0, f1, f2, f3, f4, f5⟩ := fC
  have neC : C ≠ a := by
    rcases ha with z | z
    · rw [z]; exact f1
    · exact fun q => f4 _ _ z q.symm
  refine ⟨m, hm.sameBut sb neC, fun h' hs' => ?_⟩
  exact ⟨_, H', I''.turned (t' := s''.toks) (fun b o hb e => hs'.extBut b o hb e) f0 f1 f3 f4 f5, q⟩
end
end L2

set_option Elab.async false
set_option linter.all false
set_option maxRecDepth 100000
namespace L2
open PySem PySem.Spec PyProof.Rows
section
variable {X : Cx} {pins : List (Addr × Obj)} {σ : St} {H : Hp} {s : Shared} {h' : Heap}
/-- some untracked records have turned, and a new object is laid -/
theorem Inv.turnedLaid {ch : List Addr} {a : Addr} {o : HO} {t' : Nat} (I : Inv X pins σ H s) (hch : ∀ b ∈ ch, FpOk X pins H b) (k : ∀ b u, b ∉ ch → s.heap.get? b = some u → h'.get? b = some u) (hp : s.heap.objs.size ≤ a)
    (new : ObjOk X.prog X.w (upd H a o) h' a o) : Inv X pins σ (upd H a o) { s with heap := h', toks := t' } := by
  have hn := I.hok.fresh hp
  have nt : ∀ b u, H b = some u → b ∉ ch := fun b u e z => by rw [(hch b z).1] at e; cases e
  refine I.step (g' := s.gens) (d' := s.drawn) (ch := ch) (fun b hb => ?_) (fun b u _ _ hc e _ => k b u hc e) (fun b u _ _ hc e _ => ⟨u.slots, k b u hc e⟩)
    (fun b u _ e n => by rw [upd_ne (Nat.ne_of_lt (Nat.lt_of_lt_of_le (Heap.lt_size e) hp))]; exact n) (fun b u hc e => ⟨u, k b u hc e⟩)
    (fun b xs q => by rw [upd_ne (ne_of_none q hn)]; exact q) (fun b u xs q => by rw [upd_ne (ne_of_none q hn)]; exact q) (fun b ps q => ⟨#[], by rw [upd_ne (ne_of_none q hn), q]; simp⟩) (fun m hm => ?_) (fun b u e => ?_) I.bare
  · obtain ⟨_, f1, _, f3, f4, f5⟩ := hch b hb
    exact ⟨f3, f1, f4, f5⟩
  · obtain ⟨ob, es, ep, ho, r⟩ := hm
    exact ⟨ob, es, ep, k _ ob (fun z => (hch _ z).2.1 rfl) ho, r⟩
  · by_cases hb : b = a
    · subst hb; rw [upd_same] at e; cases e; exact new
    · rw [upd_ne hb] at e
      refine (I.hok b u e).stay (fun c v hc q => k c v ?_ q) (fun c q => by rw [upd_ne (ne_of_none q hn)]; exact q) fun c xs q => by rw [upd_ne (ne_of_none q hn)]; exact q
      rcases hc with z | z
      · rw [z]; exact nt b u e
      · exact nt c _ z
end

/-- a list from behind -/
def Itv (K : PySem.W.Frag) (a : Addr) (xs : List V) : It :=
  ⟨fun i H => i < xs.length ∧ SqL K H a xs, fun i H x H' => H' = H ∧ xs[xs.length - 1 - i]? = some x, fun i H => i = xs.length⟩

/-- the signs of a text -/
def Its (z : Str) : It := ⟨fun i _ => i < z.cps.size, fun i H x H' => H' = H ∧ ∃ c, z.cps[i]? = some c ∧ x = .str ⟨#[c]⟩, fun i _ => i = z.cps.size⟩
theorem strIter_cases (z : Str) : (strIterType z = "str_ascii_iterator") ∨ (strIterType z = "str_iterator") := by
  unfold strIterType
  split
  · exact .inl rfl
  · exact .inr rfl
theorem turn_str {P : Program} {w : World} {K : PySem.W.Frag} {tg : Expr} (it : Addr) (z : Str) (t : Tok) : Turn P w K tg (Its z) [it] it (fun i h => h.IsStrIter it (strIterType z) z t i) where
  mem := by simp
  obj := fun i h st b hb => by
    have e : b = it := by simpa using hb
    subst e
    obtain ⟨o, e, c, d⟩ := st
    exact ⟨o, e, fun v z => by rw [d] at z; cases z⟩
  keep := fun i h h' st k => let ⟨o, ho, r⟩ := st; ⟨o, k it (by simp) o ho, r⟩
  item := by
    intro X hP hw hK hc i pins s σ H E I hf st hg
    subst hP hw hK
    obtain ⟨f0, f1, f2, f3, f4, f5⟩ := hf it (by simp)
    have hx : z.cps[i]? = some (z.cps[i]'hg) := Array.getElem?_eq_getElem hg
    have fin : ∀ h' : Heap, h'.IsStrIter it (strIterType z) z t (i + 1) → Heap.SameBut it s.heap h' → (fun r s1 => ∃ u, r = some u ∧
      wpAny (model X.prog X.w) X.A (letOwnedTupleGo tg (.ref it) u) (fun _ s2 => ∃ x H', Inv X pins σ H' s2 ∧ RelV x u ∧ (Its z).yld i H x H' ∧ (fun (i : Nat) (h : Heap) => h.IsStrIter it (strIterType z) z t i) (i + 1) s2.heap ∧ ∀ b ∈ [it], H' b = none) E s1) (some (Value.str ⟨#[z.cps[i]'hg]⟩ s.toks)) { s with heap := h', toks := s.toks + 1 } := fun h' st' sb => by
      have I1 : Inv X pins σ H { s with heap := h', toks := s.toks + 1 } := I.turned (t' := s.toks + 1) (fun b o hb e => (sb.2 b hb).trans e) f0 f1 f3 f4 f5
      obtain ⟨o, e, c, d⟩ := id st'
      have hn : ["enumerate", "zip", "dict_itemiterator", "dict_reverseitemiterator", "odict_iterator", "itertools.zip_longest", "itertools.pairwise"].contains (strIterType z) = false := by
        rcases strIter_cases z with q | q <;> rw [q] <;> decide
      exact ⟨_, rfl, go_of (s := { s with heap := h', toks := s.toks + 1 }) e c d hn ⟨.str ⟨#[z.cps[i]'hg]⟩, H, I1, ⟨_, rfl⟩, ⟨rfl, _, hx, rfl⟩, st', fun b hb => (hf b hb).1⟩⟩
    rcases strIter_cases z with q | q
    · rw [q] at st
      exact wpAny_pyNext_ascii_item st hx fun h' st' sb => fin h' (by rw [q]; exact st') sb
    · rw [q] at st
      exact wpAny_pyNext_wide_item st hx fun h' st' sb => fin h' (by rw [q]; exact st') sb
  done := by
    intro X hP hw hK hc i pins s σ H E I hf st hg
    subst hP hw hK
    have hi : i = z.cps.size := hg
    obtain ⟨f0, f1, f2, f3, f4, f5⟩ := hf it (by simp)
    have hx : z.cps[i]? = none := by rw [hi]; simp
    rcases strIter_cases z with q | q
    · rw [q] at st
      exact wpAny_pyNext_ascii_end (I.ok.hd hc) st hx fun h' eb => ⟨rfl, I.turned (t' := s.toks) (fun b o hb e => eb b o hb e) f0 f1 f3 f4 f5⟩
    · rw [q] at st
      exact wpAny_pyNext_wide_end (I.ok.hd hc) st hx fun h' eb => ⟨rfl, I.turned (t' := s.toks) (fun b o hb e => eb b o hb e) f0 f1 f3 f4 f5⟩
  self := fun _ _ _ _ _ st h => by
    rcases strIter_cases z with q | q
    · rw [q] at st; exact wpAny_pyIter_striter_ascii st h
    · rw [q] at st; exact wpAny_pyIter_striter_wide st h

/-- the pairs of a place and an item; J the items -/
def Ite (K : PySem.W.Frag) (a : Addr) : It :=
  ⟨fun i H => ∃ xs x, SqL K H a xs ∧ xs[i]? = some x, fun i H v H' => ∃ p x, v = .ref p ∧ H p = none ∧ H' = upd H p (.tup [.int i, x]) ∧ ∀ xs, SqL K H a xs → xs[i]? = some x, fun i H => ∃ xs, SqL K H a xs ∧ xs.length ≤ i⟩
theorem turn_enum {P : Program} {w : World} {K : PySem.W.Frag} {els : List Expr} {k : Nat} {tp : Pos} (a e it : Addr) (hne : e ≠ it) : Turn P w K (.Tuple els k tp) (Ite K a) [e, it] e (fun i h => (∃ old, IsEnum h e it (i : Int) old) ∧ h.IsListIter it a i) where
  mem := by simp
  obj := fun i h st b hb => by
    obtain ⟨⟨old, he⟩, ⟨o, e1, c, d⟩⟩ := st
    rcases List.mem_cons.mp hb with z | z
    · subst z
      exact ⟨_, he, fun v z => by
        have z' : Data.fields _ = Data.cell v := z
        cases z'⟩
    · have z' : b = it := by simpa using z
      subst z'
      exact ⟨o, e1, fun v z => by rw [d] at z; cases z⟩
  keep := fun i h h' st k => by
    obtain ⟨⟨old, he⟩, st⟩ := st
    exact ⟨⟨old, k e (by simp) _ he⟩, st.at fun o q => k it (by simp) o q⟩
  item := by
    intro X hP hw hK hc i pins s σ H E I hf st hg
    subst hP hw hK
    obtain ⟨⟨old, he⟩, st⟩ := st
    obtain ⟨xs, x, hq, hx⟩ := hg
    obtain ⟨its, rv, p, hz⟩ := I.list hq
    obtain ⟨u, hu, ru⟩ := rv.get hx
    refine wpAny_pyNext_enum_item he st p.isList (x := u) (by simpa using hu) hne fun h' he' st' ht' hz' hk' => ?_
    have hfr : H s.heap.objs.size = none := I.hok.fresh (Nat.le_refl _)
    have hel := Heap.lt_size he
    refine ⟨_, rfl, wpAny_letOwnedTupleGo_enum he' fun h'' he'' hs'' => ?_⟩
    have ht'' : h''.get? s.heap.objs.size = some { cls := .type "tuple", data := .seq #[.int i s.toks, u] } := (hs''.2 _ (Nat.ne_of_gt hel)).trans ht'
    have I1 : Inv X pins σ (upd H s.heap.objs.size (.tup [.int i, x])) { s with heap := h'', toks := s.toks + 1 } := by
      refine I.turnedLaid (ch := [e, it]) hf (fun b o hb q => (hs''.2 b fun z => hb (by simp [z])).trans (hk' b o (fun z => hb (by simp [z])) (fun z => hb (by simp [z])) q)) (Nat.le_refl _) ?_
      exact ⟨by show 2 ≤ sizeLine; decide, [.int i s.toks, u], .cons ⟨_, rfl⟩ (.cons ru .nil), ⟨_, ht'', rfl, _, rfl⟩⟩
    refine ⟨.ref s.heap.objs.size, _, I1, rfl, ⟨_, x, rfl, hfr, rfl, fun ys hy => by rw [I.list_inj hy hq]; exact hx⟩, ⟨⟨u, by simpa using he''⟩, ?_⟩, fun b hb => ?_⟩
    · exact st'.at fun o q => (hs''.2 it (Ne.symm hne)).trans q
    · have hb' : b < s.heap.objs.size := by
        rcases List.mem_cons.mp hb with z | z
        · rw [z]; exact hel
        · have z' : b = it := by simpa using z
          obtain ⟨o, q, _⟩ := st
          rw [z']; exact Heap.lt_size q
      rw [upd_ne (Nat.ne_of_lt hb')]
      exact (hf b hb).1
  done := by
    intro X hP hw hK hc i pins s σ H E I hf st hg
    subst hP hw hK
    obtain ⟨⟨old, he⟩, st⟩ := st
    obtain ⟨xs, hq, hx⟩ := hg
    obtain ⟨its, rv, p, hz⟩ := I.list hq
    obtain ⟨f0, f1, f2, f3, f4, f5⟩ := hf it (by simp)
    have hl := rv.length
    exact wpAny_pyNext_enum_end (I.ok.hd hc) he st p.isList (by simp; omega) fun h' eb => ⟨rfl, I.turned (t' := s.toks) (fun b o hb e => eb b o hb e) f0 f1 f3 f4 f5⟩
  self := fun _ _ _ _ _ st h => by
    obtain ⟨⟨old, he⟩, _⟩ := st
    exact wpAny_pyIter_enum he h

/-- the pairs of a place and a sign -/
def Ites (z : Str) : It := ⟨fun i _ => i < z.cps.size, fun i H v H' => ∃ p c, v = .ref p ∧ H p = none ∧ H' = upd H p (.tup [.int i, .str ⟨#[c]⟩]) ∧ z.cps[i]? = some c, fun i _ => i = z.cps.size⟩
theorem draws_str {P : Program} {w : World} {A : Around} (hh : A.handled = none) (it : Addr) (z : Str) (t : Tok) :
    Draws P w A it [it] z.cps.size (fun i v => ∃ c u, z.cps[i]? = some c ∧ v = .str ⟨#[c]⟩ u) (fun i h => h.IsStrIter it (strIterType z) z t i) := by
  rcases strIter_cases z with q | q
  · rw [q]; exact Draws.strAscii hh it z t
  · rw [q]; exact Draws.strWide hh it z t
theorem turn_enumS {P : Program} {w : World} {K : PySem.W.Frag} {els : List Expr} {k : Nat} {tp : Pos} (z : Str) (t : Tok) (e it : Addr) (hne : e ≠ it) : Turn P w K (.Tuple els k tp) (Ites z) [e, it] e (fun i h => (∃ old, IsEnum h e it (i : Int) old) ∧ h.IsStrIter it (strIterType z) z t i) where
  mem := by simp
  obj := fun i h st b hb => by
    obtain ⟨⟨old, he⟩, ⟨o, e1, c, d⟩⟩ := st
    rcases List.mem_cons.mp hb with z | z
    · subst z
      exact ⟨_, he, fun v z => by
        have z' : Data.fields _ = Data.cell v := z
        cases z'⟩
    · have z' : b = it := by simpa using z
      subst z'
      exact ⟨o, e1, fun v z => by rw [d] at z; cases z⟩
  keep := fun i h h' st k => by
    obtain ⟨⟨old, he⟩, ⟨o, ho, r⟩⟩ := st
    exact ⟨⟨old, k e (by simp) _ he⟩, ⟨o, k it (by simp) o ho, r⟩⟩
  item := by
    intro X hP hw hK hc i pins s σ H E I hf st hg
    subst hP hw hK
    obtain ⟨⟨old, he⟩, st⟩ := st
    have D := draws_str (P := X.prog) (w := X.w) (A := X.A.in1) (I.ok.hd hc) it z t
    refine wpAny_pyNext_enum_itemD D he st hg hne (by simpa using hne) fun u h' tk hu he' st' ht' hz' hk' => ?_
    obtain ⟨c, tu, hcu, rfl⟩ := hu
    have hfr : H s.heap.objs.size = none := I.hok.fresh (Nat.le_refl _)
    have hel := Heap.lt_size he
    refine ⟨_, rfl, wpAny_letOwnedTupleGo_enum he' fun h'' he'' hs'' => ?_⟩
    have ht'' : h''.get? s.heap.objs.size = some { cls := .type "tuple", data := .seq #[.int i tk, .str ⟨#[c]⟩ tu] } := (hs''.2 _ (Nat.ne_of_gt hel)).trans ht'
    have I1 : Inv X pins σ (upd H s.heap.objs.size (.tup [.int i, .str ⟨#[c]⟩])) { s with heap := h'', toks := tk + 1 } := by
      refine I.turnedLaid (ch := [e, it]) hf (fun b o hb q => (hs''.2 b fun z => hb (by simp [z])).trans (hk' b o (fun z => hb (by simp [z])) (fun z => hb (by simp [z])) q)) (Nat.le_refl _) ?_
      exact ⟨by show 2 ≤ sizeLine; decide, [.int i tk, .str ⟨#[c]⟩ tu], .cons ⟨_, rfl⟩ (.cons ⟨_, rfl⟩ .nil), ⟨_, ht'', rfl, _, rfl⟩⟩
    refine ⟨.ref s.heap.objs.size, _, I1, rfl, ⟨_, c, rfl, hfr, rfl, hcu⟩, ⟨⟨_, by simpa using he''⟩, ?_⟩, fun b hb => ?_⟩
    · obtain ⟨o, ho, r⟩ := st'
      exact ⟨o, (hs''.2 it (Ne.symm hne)).trans ho, r⟩
    · have hb' : b < s.heap.objs.size := by
        rcases List.mem_cons.mp hb with z | z
        · rw [z]; exact hel
        · have z' : b = it := by simpa using z
          obtain ⟨o, q, _⟩ := st
          rw [z']; exact Heap.lt_size q
      rw [upd_ne (Nat.ne_of_lt hb')]
      exact (hf b hb).1
  done := by
    intro X hP hw hK hc i pins s σ H E I hf st hg
    subst hP hw hK
    obtain ⟨⟨old, he⟩, st⟩ := st
    have hi : i = z.cps.size := hg
    rw [hi] at st
    obtain ⟨f0, f1, f2, f3, f4, f5⟩ := hf it (by simp)
    have D := draws_str (P := X.prog) (w := X.w) (A := X.A.in1) (I.ok.hd hc) it z t
    exact wpAny_pyNext_enum_endD D he st fun h' eb => ⟨rfl, I.turned (t' := s.toks) (fun b o hb e => eb b o hb e) f0 f1 f3 f4 f5⟩
  self := fun _ _ _ _ _ st h => by
    obtain ⟨⟨old, he⟩, _⟩ := st
    exact wpAny_pyIter_enum he h

section
variable {X : Cx} {tg : Expr}
def iStr (tl : TE) : TI := fun σ H R => tl σ H fun x H1 => ∃ z, x = .str z ∧ R (Its z) H1
theorem pi_str {l : Expr} {tl : TE} (hl : PE X l tl) : PI X tg l (iStr tl) := by
  intro pins s σ H R I h
  refine thn (hl pins s σ H _ I h) fun v s1 ⟨x, H1, I1, r1, q1⟩ => ?_
  obtain ⟨z, e, q⟩ := q1
  subst e
  obtain ⟨t, rfl⟩ := r1
  refine wpAny_pyIter_strU ?_
  refine ⟨s1.heap.objs.size, [s1.heap.objs.size], _, _, H1, rfl, I1.kept (t' := s1.toks) fun b o e => Heap.get?_push_of_some _ e, turn_str _ z t, ⟨_, Heap.get?_push_size _ rfl, rfl, rfl⟩, fun b hb => ?_, q⟩
  have e : b = s1.heap.objs.size := by simpa using hb
  subst e
  exact I1.fpOk (Nat.le_refl _) (I1.hok.fresh (Nat.le_refl _))
def iRev (K : PySem.W.Frag) (ta : TA) : TI := fun σ H R => ta σ H fun vs H1 => ∃ a xs, vs = [.ref a] ∧ SqL K H1 a xs ∧ R (Itv K a xs) H1
def iEnum (K : PySem.W.Frag) (ta : TA) : TI := fun σ H R => ta σ H fun vs H1 => ∃ a, vs = [.ref a] ∧ (∃ xs, SqL K H1 a xs) ∧ R (Ite K a) H1
theorem pi_enum {els : List Expr} {k : Nat} {tp : Pos} {a : Expr} {ta : TA} {p pos : Pos} (hg : Gl X "enumerate") (hm : X.mg "enumerate" = none) (ha : PA X [a] ta) (hs : starEach [a] X.env = [(false, eval a X.env)] := by rfl) : PI X (.Tuple els k tp) (.Call (.Name "enumerate" p) [a] [] pos) (iEnum X.K ta) := by
  intro pins s σ H R I h
  refine Call_ (ld_blt I hg hm boot_enumerate (PyProof.Rows.callWith_type1 (thn (ha pos pins s σ H _ I h) fun us s1 ⟨vs, H1, I1, r1, q1⟩ => ?_) hs rfl))
  obtain ⟨a, e, ⟨xs, hq⟩, q⟩ := q1
  subst e
  cases r1 with
  | cons r rr =>
    cases rr
    obtain rfl : _ = Value.ref a := r
    obtain ⟨its, rv, pl, hz⟩ := I1.list hq
    refine call_enumerate_list pl.isList fun h' he hi hsz hk => wpAny_pyIter_enum he ?_
    refine ⟨s1.heap.objs.size + 1, [s1.heap.objs.size + 1, s1.heap.objs.size], _, _, H1, rfl, I1.kept (t' := s1.toks) hk, turn_enum a _ s1.heap.objs.size (Nat.succ_ne_self _), ⟨⟨_, he⟩, hi⟩, fun b hb => ?_, q⟩
    rcases List.mem_cons.mp hb with z | z
    · subst z
      exact I1.fpOk (Nat.le_succ _) (I1.hok.fresh (Nat.le_succ _))
    · have e : b = s1.heap.objs.size := by simpa using z
      subst e
      exact I1.fpOk (Nat.le_refl _) (I1.hok.fresh (Nat.le_refl _))
def iEnumS (ta : TA) : TI := fun σ H R => ta σ H fun vs H1 => ∃ z, vs = [.str z] ∧ R (Ites z) H1
theorem pi_enumS {els : List Expr} {k : Nat} {tp : Pos} {a : Expr} {ta : TA} {p pos : Pos} (hg : Gl X "enumerate") (hm : X.mg "enumerate" = none) (ha : PA X [a] ta) (hs : starEach [a] X.env = [(false, eval a X.env)] := by rfl) : PI X (.Tuple els k tp) (.Call (.Name "enumerate" p) [a] [] pos) (iEnumS ta) := by
  intro pins s σ H R I h
  refine Call_ (ld_blt I hg hm boot_enumerate (PyProof.Rows.callWith_type1 (thn (ha pos pins s σ H _ I h) fun us s1 ⟨vs, H1, I1, r1, q1⟩ => ?_) hs rfl))
  obtain ⟨z, e, q⟩ := q1
  subst e
  cases r1 with
  | cons r rr =>
    cases rr
    obtain ⟨t, rfl⟩ := r
    refine call_enumerate_str fun h' he hi hsz hk => wpAny_pyIter_enum he ?_
    refine ⟨s1.heap.objs.size + 1, [s1.heap.objs.size + 1, s1.heap.objs.size], _, _, H1, rfl, I1.kept (t' := s1.toks) hk, turn_enumS z t _ s1.heap.objs.size (Nat.succ_ne_self _), ⟨⟨_, he⟩, hi⟩, fun b hb => ?_, q⟩
    rcases List.mem_cons.mp hb with z | z
    · subst z
      exact I1.fpOk (Nat.le_succ _) (I1.hok.fresh (Nat.le_succ _))
    · have e : b = s1.heap.objs.size := by simpa using z
      subst e
      exact I1.fpOk (Nat.le_refl _) (I1.hok.fresh (Nat.le_refl _))
end
end L2

set_option Elab.async false
set_option linter.all false
set_option maxRecDepth 100000
namespace L2
open PySem PySem.Spec PyProof.Rows

/-! ## == of lists and tuples, their items ints, bools, texts, None, or such lists and tuples -/
inductive EqD (K : PySem.W.Frag) (H : Hp) : Nat → V → V → Bool → Prop where
  | flat {n : Nat} {x y : V} (fx : flatV x = true) (fy : flatV y = true) : EqD K H n x y (eqV x y)
  | same {n : Nat} {a : Addr} : EqD K H n (.ref a) (.ref a) true
  | lists {n : Nat} {a b : Addr} {xs ys : List V} {e : Nat → Bool} (ha : SqL K H a xs) (hb : SqL K H b ys) (hl : xs.length = ys.length) (he : ∀ j x y, xs[j]? = some x → ys[j]? = some y → EqD K H n x y (e j)) (ne : a ≠ b) :
      EqD K H (n + 1) (.ref a) (.ref b) ((List.range xs.length).all e)
  | longer {n : Nat} {a b : Addr} {xs ys : List V} (ha : SqL K H a xs) (hb : SqL K H b ys) (hl : xs.length ≠ ys.length) (ne : a ≠ b) : EqD K H (n + 1) (.ref a) (.ref b) false
  | tups {n : Nat} {a b : Addr} {xs ys : List V} {e : Nat → Bool} (ha : SqT K H a xs) (hb : SqT K H b ys) (he : ∀ j x y, xs[j]? = some x → ys[j]? = some y → EqD K H n x y (e j)) (ne : a ≠ b) :
      EqD K H (n + 1) (.ref a) (.ref b) ((List.range (min xs.length ys.length)).all e && xs.length == ys.length)
section
variable {X : Cx} {pins : List (Addr × Obj)} {σ : St} {H : Hp} {s : Shared}

/-- two lists, or two tuples, compared at the top -/
inductive EqT (K : PySem.W.Frag) (H : Hp) (n : Nat) : V → V → Bool → Prop where
  | lists {a b : Addr} {xs ys : List V} {e : Nat → Bool} (ha : SqL K H a xs) (hb : SqL K H b ys) (hl : xs.length = ys.length) (he : ∀ j x y, xs[j]? = some x → ys[j]? = some y → EqD K H n x y (e j)) :
      EqT K H n (.ref a) (.ref b) ((List.range xs.length).all e)
  | longer {a b : Addr} {xs ys : List V} (ha : SqL K H a xs) (hb : SqL K H b ys) (hl : xs.length ≠ ys.length) : EqT K H n (.ref a) (.ref b) false
  | tups {a b : Addr} {xs ys : List V} {e : Nat → Bool} (ha : SqT K H a xs) (hb : SqT K H b ys) (he : ∀ j x y, xs[j]? = some x → ys[j]? = some y → EqD K H n x y (e j)) :
      EqT K H n (.ref a) (.ref b) ((List.range (min xs.length ys.length)).all e && xs.length == ys.length)
def rEqT (K : PySem.W.Frag) (neg : Bool) : R2 := fun x y H Q => ∃ b, EqT K H 8 x y b ∧ Q (.bl (if neg then !b else b)) H

/-! ## is True, is not True -/

/-! ## isinstance -/
def rInst (K : PySem.W.Frag) : List V → Hp → VK → Prop := fun xs H Q => ∃ x n t b, xs = [x, .ty n] ∧ TyOf K H x t ∧ PySem.W.kitOne K t (.type n) = some b ∧ Q (.bl b) H
theorem call_inst : CallR X (.builtin "isinstance") (rInst X.K) := by
  intro pins s σ H xs us Q I rv h
  obtain ⟨x, n, t, b, rfl, ty, e, q⟩ := h
  obtain ⟨u, v, rfl, r1, r2⟩ := rv.two
  cases r2
  exact isinst_ok I r1 ty e fun tk => ⟨.bl b, H, I.tok tk, rfl, q⟩

/-! ## "".join -/
theorem strs_of : ∀ {zs : List Str} {us : List Value}, Vals (zs.map V.str) us → StrsAre us zs
  | [], _, h => by cases h; exact .nil
  | z :: r, _, h => by
    cases h with
    | cons r1 t =>
      obtain ⟨t', rfl⟩ := r1
      exact .cons _ _ (strs_of t)
def rJoin (K : PySem.W.Frag) : V → List V → Hp → VK → Prop := fun x vs H Q => ∃ sep a zs, x = .str sep ∧ vs = [.ref a] ∧ SqL K H a (zs.map V.str) ∧ (zs.map (·.length)).sum + zs.length * sep.length ≤ 16777216 ∧ Q (.str (Txt.join sep zs)) H
theorem mt_join : MtR X "str.join" (rJoin X.K) := by
  intro pins s σ H x vs v us Q I rx rv h
  obtain ⟨sep, a, zs, rfl, rfl, hq, hz, q⟩ := h
  obtain ⟨t, rfl⟩ := rx
  obtain ⟨u, rfl, ru⟩ := rv.one
  cases ru
  obtain ⟨its, r, pl, _⟩ := I.list hq
  exact join_list pl.isList (strs_of (by simpa using r)) hz fun t' k => ⟨.str _, H, I.tok k, ⟨_, rfl⟩, q⟩
end
end L2

set_option Elab.async false
set_option linter.all false
set_option maxRecDepth 100000
namespace L2
open PySem PySem.Spec PyProof.Rows

/-! ## defs: what a call needs of one, in one word -/
/-- a def of the text, its defaults at dV -/
structure FunD (K : PySem.W.Frag) (x qual : Str) (st : Stmt) (dV : Value) (f : Addr) (fd : FuncData) : Prop where
  ex : ∃ (oc : Value) (od : Option Addr) (kV doc pm : Value) (an : Option Addr) (cdv ct : Value) (osl : Array (Option Value)),
    fd = PySem.W.fnOf x qual (defArgs st) (defBody st) (defScope st) dV kV doc pm an cdv ct ∧ K.lookup f = some ⟨oc, od, .func fd, osl⟩ ∧ PySem.W.codeIn K cdv qual = true
  kp : PySem.W.keepIn K (.ref f) = true
theorem funD_mk {K : PySem.W.Frag} {x qual : Str} {st : Stmt} {dV : Value} {f : Addr} {oc : Value} {od an : Option Addr} {osl : Array (Option Value)} {kV doc pm cdv ct : Value}
    (l : K.lookup f = some ⟨oc, od, .func (PySem.W.fnOf x qual (defArgs st) (defBody st) (defScope st) dV kV doc pm an cdv ct), osl⟩)
    (c : PySem.W.codeIn K cdv qual = true) (k : PySem.W.keepIn K (.ref f) = true) : FunD K x qual st dV f (PySem.W.fnOf x qual (defArgs st) (defBody st) (defScope st) dV kV doc pm an cdv ct) := ⟨⟨oc, od, kV, doc, pm, an, cdv, ct, osl, rfl, l, c⟩, k⟩
section
variable {P : Program} {w : World} {K : PySem.W.Frag} {mg : Str → Option Value} {base : Heap}
theorem FunD.ok {x qual : Str} {st : Stmt} {dV : Value} {f : Addr} {fd : FuncData} {N ps : List Str} {k : Nat} {sp : Sp} (F : FunD K x qual st dV f fd) (S : FnScope N ps (defScope st)) (len : ∀ vs H Q E, sp vs H Q E → vs.length = ps.length)
    (hbody : ∀ (cdv : Value) (A : Around) (outer : List Env) (s : Shared) (H : Hp) (vs : List V) (Q : VK) (E : XK), Room k (A.deeper (envOfC qual (defScope st) s.heap.objs.size f cdv)) → sp vs H Q E →
      ∃ t, PSs (cxOf CX0 P w K mg base N qual (defScope st) f cdv A outer s H E).nox (defBody st) t ∧ t { nx := fun _ H' => Q .non H', rt := Q } (start N vs) H) : FnOk P w K mg base CX0 (k + 1) f fd ps sp := by
  obtain ⟨oc, od, kV, doc, pm, an, cdv, ct, osl, rfl, lk, hcd⟩ := F.ex
  refine fn_of lk hcd S len fun A outer s H vs Q E hr hsp => ?_
  obtain ⟨t, h, q⟩ := hbody cdv A outer s H vs Q E hr hsp
  exact ⟨t, h.nox, q⟩
theorem FunD.binds {x qual : Str} {st : Stmt} {f : Addr} {fd : FuncData} {ps : List Str} (F : FunD K x qual st .none f fd)
    (h : ∀ (kV doc pm : Value) (an : Option Addr) (cdv ct : Value) (us : List Value), us.length = ps.length → bindArgs (PySem.W.fnOf x qual (defArgs st) (defBody st) (defScope st) .none kV doc pm an cdv ct) ⟨us, []⟩ = pure (ps.zip us)) : Binds K fd ps [] := by
  obtain ⟨oc, od, kV, doc, pm, an, cdv, ct, osl, rfl, lk, hcd⟩ := F.ex
  exact .all (h kV doc pm an cdv ct)
/-- the def x of the module, known by a promise: at most k calls deep -/
def Fn (P : Program) (w : World) (K : PySem.W.Frag) (mg : Str → Option Value) (base : Heap) (CX : CXT) (x : Str) (ps : List Str) (dvs : List V) (k : Nat) (sp : Sp) : Prop :=
  ∃ (f : Addr) (fd : FuncData) (ds : List Value), FnOk P w K mg base CX k f fd ps sp ∧ Binds K fd ps ds ∧ Vals dvs ds ∧ PySem.W.keepIn K (.ref f) = true ∧ mg x = some (.ref f)
end
section
variable {X : Cx} {CX : CXT} {k : Nat} {ps : List Str} {sp : Sp} {dvs : List V} {x : Str} {p pos : Pos} {e : Expr} {es : List Expr} {t : TA}
theorem pe_fnX {j : Nat} {E : XK} (F : Fn X.prog X.w X.K X.mg X.base CX x ps dvs k sp) (hr : Room j X.A) (hj : k ≤ j) (hg : Gl X x) (hx : Passes CX X E) (ha : PA X (e :: es) t) (hdb : (x == ("__debug__" : Str)) = false := by decide)
    (he : starEach (e :: es) X.env = (false, eval e X.env) :: starEach es X.env := by rfl) (hpl : (backTo pos (starEach es X.env)).any (·.1) = false := by rfl) : PE X (.Call (.Name x p) (e :: es) [] pos) (tCall sp dvs E t) := by
  obtain ⟨f, fd, ds, F, hb, hd, hk, hm⟩ := F
  exact pe_call F (hr.mono hj) hg hm hk hb hd hx ha hdb he hpl
theorem pe_fn {j : Nat} (F : Fn X.prog X.w X.K X.mg X.base CX0 x ps dvs k sp) (hr : Room j X.A) (hj : k ≤ j) (hg : Gl X x) (ha : PA X (e :: es) t) (hdb : (x == ("__debug__" : Str)) = false := by decide)
    (he : starEach (e :: es) X.env = (false, eval e X.env) :: starEach es X.env := by rfl) (hpl : (backTo pos (starEach es X.env)).any (·.1) = false := by rfl) : PE X (.Call (.Name x p) (e :: es) [] pos) (tCall sp dvs E0 t) :=
  pe_fnX F hr hj hg pass0 ha hdb he hpl
theorem compOk {scope : Scope} {N' : List Str} {js : List (Option Nat)} {N : List Str} {sc : Scope} (h1 : X.N = N) (h2 : X.env.scope = sc) (kind : scope.kind = .function) (nocell : ∀ y ∈ scope.names, y.2 ≠ .cell) (loc : ∀ y ∈ scope.names, y.2 = .local → scope.names.lookup y.1 = some .local)
    (free : ∀ y ∈ scope.names, y.2 = .free → sc.names.lookup y.1 = some .cell) (len : js.length = N'.length) (jok : jsOk N N' scope js = true) : CompOk X scope N' js := by
  subst h1 h2
  exact ⟨kind, nocell, loc, free, len, jok⟩
end

/-! ## heaps -/
theorem same_upd_new {H : Hp} {p : Addr} (h : H p = none) (o : HO) : Same H (upd H p o) := fun b u q => by rw [upd_ne (ne_of_none q h)]; exact q
/-- what was new stays apart when it is changed -/
theorem Same.upd {H H' : Hp} {p : Addr} (h : Same H H') (n : H p = none) (o : HO) : Same H (upd H' p o) := fun b u q => by rw [upd_ne (ne_of_none q n)]; exact h b u q
theorem atI_int {xs : List Int} {i : Int} {v : Int} (h0 : 0 ≤ i) (h : xs[i.toNat]? = some v) : atI (xs.map V.int) i = some (.int v) := by
  have e : i = ((i.toNat : Nat) : Int) := by omega
  rw [e]
  exact atI_nat (by rw [List.getElem?_map, h]; rfl)
theorem small60 {n : Nat} (h : n ≤ 1000000) : n ≤ sizeLine := Nat.le_trans h (by decide)
end L2

set_option Elab.async false
set_option linter.all false
set_option maxRecDepth 100000
namespace L2
open PySem PySem.Spec PyProof.Rows
theorem toB {Q : VK} {H : Hp} {b b' : Bool} (q : Q (.bl b) H) (e : b = b') : Q (.bl b') H := e ▸ q
theorem toI {Q : VK} {H : Hp} {b b' : Int} (q : Q (.int b) H) (e : b = b') : Q (.int b') H := e ▸ q
/-! ## loops over pairs -/
theorem for_enum {K : PySem.W.Frag} {a : Addr} {xs : List V} {g : TG} {tb : TS} {D : Ends} {σ : St} {H : Hp} (Pv : Nat → St → Hp → Prop) (h0 : Pv 0 σ H) (hl : ∀ i σ H, i ≤ xs.length → Pv i σ H → SqL K H a xs)
    (hs : ∀ i x σ H p, xs[i]? = some x → Pv i σ H → H p = none → g (.ref p) σ (upd H p (.tup [.int i, x])) fun σ2 H2 => tb { D with nx := Pv (i + 1), ct := Pv (i + 1), bk := D.nx } σ2 H2) (hd : ∀ σ H, Pv xs.length σ H → D.nx σ H) :
    ∃ W : Nat → Nat → St → Hp → Prop, (∃ m, W 0 m σ H) ∧ ∀ i m σ H, W i m σ H →
      ((Ite K a).stop i H ∧ D.nx σ H) ∨ ((Ite K a).go i H ∧ ∃ N : St → Hp → Prop, (∀ σ' H', N σ' H' → ∃ m', m' < m ∧ W (i + 1) m' σ' H') ∧ ∀ x H', (Ite K a).yld i H x H' → g x σ H' fun σ2 H2 => tb { D with nx := N, ct := N, bk := D.nx } σ2 H2) := by
  refine ⟨fun i m σ H => m = xs.length - i ∧ i ≤ xs.length ∧ Pv i σ H, ⟨xs.length, by simp, Nat.zero_le _, h0⟩, ?_⟩
  rintro i m σ H ⟨rfl, hi, p⟩
  have q := hl i σ H hi p
  by_cases hlt : i < xs.length
  · refine .inr ⟨⟨xs, xs[i], q, by simp [hlt]⟩, Pv (i + 1), fun σ' H' p' => ⟨xs.length - (i + 1), by omega, rfl, hlt, p'⟩, fun x H' y => ?_⟩
    obtain ⟨r, v, rfl, hr, rfl, y⟩ := y
    exact hs i v σ H r (y xs q) p hr
  · have e : i = xs.length := by omega
    subst e
    exact .inl ⟨⟨xs, q, Nat.le_refl _⟩, hd σ H p⟩
theorem for_enumS {z : Str} {g : TG} {tb : TS} {D : Ends} {σ : St} {H : Hp} (Pv : Nat → St → Hp → Prop) (h0 : Pv 0 σ H)
    (hs : ∀ i c σ H p, z.cps[i]? = some c → Pv i σ H → H p = none → g (.ref p) σ (upd H p (.tup [.int i, .str ⟨#[c]⟩])) fun σ2 H2 => tb { D with nx := Pv (i + 1), ct := Pv (i + 1), bk := D.nx } σ2 H2) (hd : ∀ σ H, Pv z.cps.size σ H → D.nx σ H) :
    ∃ W : Nat → Nat → St → Hp → Prop, (∃ m, W 0 m σ H) ∧ ∀ i m σ H, W i m σ H →
      ((Ites z).stop i H ∧ D.nx σ H) ∨ ((Ites z).go i H ∧ ∃ N : St → Hp → Prop, (∀ σ' H', N σ' H' → ∃ m', m' < m ∧ W (i + 1) m' σ' H') ∧ ∀ x H', (Ites z).yld i H x H' → g x σ H' fun σ2 H2 => tb { D with nx := N, ct := N, bk := D.nx } σ2 H2) := by
  refine ⟨fun i m σ H => m = z.cps.size - i ∧ i ≤ z.cps.size ∧ Pv i σ H, ⟨z.cps.size, by simp, Nat.zero_le _, h0⟩, ?_⟩
  rintro i m σ H ⟨rfl, hi, p⟩
  by_cases hlt : i < z.cps.size
  · refine .inr ⟨hlt, Pv (i + 1), fun σ' H' p' => ⟨z.cps.size - (i + 1), by omega, rfl, hlt, p'⟩, fun x H' y => ?_⟩
    obtain ⟨r, c, rfl, hr, rfl, y⟩ := y
    exact hs i c σ H r y p hr
  · have e : i = z.cps.size := by omega
    subst e
    exact .inl ⟨rfl, hd σ H p⟩
/-! ## a list comprehension without tests, the heap growing only -/
theorem comp_all {J : It} {g : TG} {te : TE} {p : Addr} {H : Hp} {σ0 : St} {Fin : Hp → Prop} (n : Nat) (items : Nat → V) (Sg : St → Prop) (hn : n ≤ sizeLine) (h0 : Sg σ0) (hp : H p = none)
    (hJ : ∀ i H', i < n → Same H H' → J.go i H') (hE : ∀ H', Same H H' → J.stop n H')
    (ht : ∀ i x σ' H' H2 (k : St → V → Hp → Prop), i < n → Sg σ' → Same H H' → J.yld i H' x H2 → (∀ σ3 y H4, Sg σ3 → y = items i → Same H' H4 → k σ3 y H4) → g x σ' H2 fun σ3 H3 => te σ3 H3 fun y H4 => k σ3 y H4)
    (fin : ∀ H', Same H H' → H' p = some (.lst ((List.range n).map items)) → Fin H') :
    ∃ W : Nat → Nat → List V → St → Hp → Prop, (∃ m, W 0 m [] σ0 (upd H p (.lst []))) ∧ CompW J g tAlways te p W Fin := by
  refine ⟨fun i m ys σ' H' => m = n - i ∧ i ≤ n ∧ ys = (List.range i).map items ∧ Sg σ' ∧ Same H H' ∧ H' p = some (.lst ys), ⟨n, by simp, Nat.zero_le _, by simp, h0, same_upd_new hp _, upd_same⟩, ?_⟩
  rintro i m ys σ' H' ⟨rfl, hi, rfl, hS, hH, hacc⟩
  refine ⟨hacc, ?_⟩
  by_cases hlt : i < n
  · refine .inr ⟨hJ i H' hlt hH, fun x H2 y => ?_⟩
    refine ht i x σ' H' H2 (fun σ2 y H4 => H4 p = some (.lst ((List.range i).map items)) ∧ ((List.range i).map items).length < sizeLine ∧ ∃ m', m' < n - i ∧ m' = n - (i + 1) ∧ i + 1 ≤ n ∧ (List.range i).map items ++ [y] = (List.range (i + 1)).map items ∧ Sg σ2 ∧ Same H (upd H4 p (.lst ((List.range i).map items ++ [y]))) ∧ upd H4 p (.lst ((List.range i).map items ++ [y])) p = some (.lst ((List.range i).map items ++ [y]))) hlt hS hH y (fun σ3 y H4 s3 ey sm => ?_)
    subst ey
    refine ⟨sm _ _ hacc, by rw [List.length_map, List.length_range]; omega, n - (i + 1), by omega, rfl, hlt, ?_, s3, (hH.trans sm).upd hp _, upd_same⟩
    rw [List.range_succ, List.map_append]
    rfl
  · have e : i = n := by omega
    subst e
    exact .inl ⟨hE H' hH, fin H' hH hacc⟩
end L2

set_option Elab.async false
set_option linter.all false
set_option maxRecDepth 100000
namespace L2
open PySem PySem.Spec PyProof.Rows
theorem app_toList (x y : Str) : (x ++ y).cps.toList = x.cps.toList ++ y.cps.toList := by
  show (x.cps ++ y.cps).toList = _
  simp
theorem join_toList : ∀ zs : List Str, (Txt.join ⟨#[]⟩ zs).cps.toList = (zs.map fun z => z.cps.toList).flatten := by
  intro zs
  have e : Txt.join ⟨#[]⟩ zs = Str.join ⟨#[]⟩ zs := eq_of_beq (join_plain_closes _ _)
  rw [e]
  induction zs with
  | nil => rfl
  | cons a r ih => rw [PyProof.Rows.join_nil_cons, app_toList, ih ?_]; rfl; exact eq_of_beq (join_plain_closes _ _)
end L2
namespace L2
open PySem PySem.Spec PyProof.Rows
section
variable {X : Cx} {K : PySem.W.Frag} {pos : Pos}
theorem call_len_seqK (h : X.K = K) : CallR X (.builtin "len") (fun xs H Q => ∃ p ys, xs = [.ref p] ∧ (SqL K H p ys ∨ SqT K H p ys) ∧ Q (.int ys.length) H) := h ▸ call_len_seq
end
end L2
namespace L2
theorem ixN_nat {n i : Nat} (h : i < n) : ixN n (i : Int) = some i := by
  unfold ixN
  rw [if_pos (by omega), if_pos (by omega)]
  simp
end L2
namespace L2
open PySem PySem.Spec PyProof.Rows
/-- a def of two parameters, the second with a default, called with one -/
theorem binds_d1 {K : PySem.W.Frag} {fd : FuncData} {x y : Str} {T : Addr} {o : Obj} {d : Value} {n : Nat} (hd : fd.defaults = .ref T) (ht : K.lookup T = some o) (hs : o.data = .seq #[d] n)
    (h : ∀ u : Value, ∃ k : Option (Array Value) → Sem (List (Str × Value)), bindArgs fd ⟨[u], []⟩ = seqItems? fd.defaults >>= k ∧ k (some #[d]) = pure [(x, u), (y, d)]) : Binds K fd [x, y] [d] := by
  intro s us hK hl
  have hl1 : us.length = 1 := by simpa using hl
  match us, hl1 with
  | [u], _ =>
    obtain ⟨k, h1, h2⟩ := h u
    exact .of_defaults hd (hK _ _ ht) hs h1 h2
end L2

set_option Elab.async false
set_option linter.all false
set_option maxRecDepth 100000
namespace L2
open PySem PySem.Spec PyProof.Rows
section
variable {X : Cx} {a b c d : Expr} {ta tb tc td : TE} {pos : Pos}
/-- a op b op c op d, as a test -/
def tChain3 (r r' r'' : R2) (ta tb tc td : TE) : TT := fun σ H Q => ta σ H fun x H1 => tb σ H1 fun y H2 => r x y H2 fun z H3 => ∃ k, z = .bl k ∧
  (if k = true then tc σ H3 fun w' H4 => r' y w' H4 fun z2 H5 => ∃ k2, z2 = .bl k2 ∧ (if k2 = true then td σ H5 fun v' H6 => r'' w' v' H6 fun z3 H7 => ∃ k3, z3 = .bl k3 ∧ Q k3 H7 else Q false H5) else Q false H3)
end
/-- a def of two parameters, the second with a default, called with both -/
theorem binds_d2 {K : PySem.W.Frag} {fd : FuncData} {x y : Str} {T : Addr} {o : Obj} {d : Value} {n : Nat} (hd : fd.defaults = .ref T) (ht : K.lookup T = some o) (hs : o.data = .seq #[d] n)
    (h : ∀ u v : Value, ∃ k : Option (Array Value) → Sem (List (Str × Value)), bindArgs fd ⟨[u, v], []⟩ = seqItems? fd.defaults >>= k ∧ k (some #[d]) = pure [(x, u), (y, v)]) : Binds K fd [x, y] [] := by
  intro s us hK hl
  have hl1 : us.length = 2 := by simpa using hl
  match us, hl1 with
  | [u, v], _ =>
    obtain ⟨k, h1, h2⟩ := h u v
    exact .of_defaults hd (hK _ _ ht) hs h1 h2
end L2

set_option Elab.async false
set_option linter.all false
set_option maxRecDepth 100000
namespace L2
open PySem PySem.Spec PyProof.Rows
theorem kf_ints_of : ∀ {xs : List Int} {us : List Value}, Vals (xs.map V.int) us → PySem.W.kf_ints us = true
  | [], _, .nil => rfl
  | x :: r, u :: us, .cons h t => by
    obtain ⟨k, rfl⟩ := h
    exact (kf_ints_of (xs := r) (us := us) t : PySem.W.kf_ints us = true)
theorem kf_at_idx {k : Int} : ∀ {xs : List Int} {us : List Value}, Vals (xs.map V.int) us → k ∈ xs → PySem.W.kf_at k us = some (xs.idxOf k)
  | x :: r, u :: us, .cons h t, hm => by
    obtain ⟨tk, rfl⟩ := h
    unfold PySem.W.kf_at
    show cond (x == k) (some 0) _ = _
    rw [List.idxOf_cons]
    cases e : x == k with
    | true => rfl
    | false =>
      have hm' : k ∈ r := by
        rcases List.mem_cons.mp hm with z | z
        · rw [z] at e; simp at e
        · exact z
      rw [kf_at_idx (xs := r) t hm']
      rfl
theorem map_eraseIdx' {α β : Type} (f : α → β) : ∀ (l : List α) (i : Nat), (l.eraseIdx i).map f = (l.map f).eraseIdx i
  | [], _ => rfl
  | _ :: _, 0 => rfl
  | x :: r, i + 1 => congrArg (f x :: ·) (map_eraseIdx' f r i)
theorem erase_idx : ∀ {l : List Int} {k : Int}, k ∈ l → l.erase k = l.eraseIdx (l.idxOf k)
  | y :: r, k, h => by
    rw [List.erase_cons, List.idxOf_cons]
    cases e : y == k with
    | true => simp
    | false =>
      have hm' : k ∈ r := by
        rcases List.mem_cons.mp h with z | z
        · rw [z] at e; simp at e
        · exact z
      rw [erase_idx hm']
      simp
theorem vals_of : ∀ {xs : List V} {us : List Value}, xs.length = us.length → (∀ (i : Nat) (v : Value), us[i]? = some v → ∃ x, xs[i]? = some x ∧ RelV x v) → Vals xs us
  | [], [], _, _ => .nil
  | x :: xs, u :: us, hl, h => by
    obtain ⟨y, e, r⟩ := h 0 u rfl
    cases e
    exact .cons r (vals_of (by simpa using hl) fun i v hv => h (i + 1) v hv)
section
variable {X : Cx}
def rRemove : V → List V → Hp → VK → Prop := fun x vs H Q => ∃ l, ∃ xs : List Int, ∃ k : Int, x = .ref l ∧ vs = [.int k] ∧ H l = some (.lst (xs.map V.int)) ∧ k ∈ xs ∧ Q .non (upd H l (.lst ((xs.erase k).map V.int)))
theorem mt_remove : MtM X "list.remove" rRemove := by
  intro pins s σ H x vs v us Q I rx rv h
  obtain ⟨l, xs, k, rfl, rfl, hH, hk, q⟩ := h
  cases rx
  obtain ⟨u, rfl, ru⟩ := rv.one
  obtain ⟨t, rfl⟩ := ru
  obtain ⟨z, its, n, r, hl, e⟩ := I.lstM hH
  obtain ⟨a, b, c⟩ := PySem.W.kf_at_spec (kf_at_idx r hk)
  refine call_meets F.slot_list_remove ⟨_, e, rfl⟩ F.entry_list_remove (F.args_list_remove_2 _ _)
    (MeetsSeq.list_remove l its.toArray n (.int k t) (isInt k) (fun y hy => PySem.W.kf_eq (kf_ints_of r) y (by simpa using hy)) (xs.idxOf k) (by simpa using a) (by simpa using b) (fun i hi hlt => (c i (by simpa using hi) hlt)) (by rw [List.size_toArray, ← hl]; exact z)) ⟨e, ?_⟩
  have er : (xs.erase k).map V.int = (xs.map V.int).eraseIdx (xs.idxOf k) := by
    rw [erase_idx hk]
    exact map_eraseIdx' _ _ _
  rw [er] at q
  refine ⟨.non, _, I.lset (its' := its.eraseIdx (xs.idxOf k)) hH e ?_ (r.eraseIdx (xs.idxOf k)) ?_, rfl, q⟩
  · show its.toArray.eraseIdxIfInBounds (xs.idxOf k) = (its.eraseIdx (xs.idxOf k)).toArray
    rw [List.eraseIdxIfInBounds_toArray]
  · have := len_erase (xs.map V.int) (xs.idxOf k)
    omega
def rIndexM (K : PySem.W.Frag) : V → List V → Hp → VK → Prop := fun x vs H Q => ∃ l, ∃ xs : List Int, ∃ k : Int, x = .ref l ∧ vs = [.int k] ∧ H l = some (.lst (xs.map V.int)) ∧ k ∈ xs ∧ Q (.int (xs.idxOf k : Nat)) H
/-- list(range(a)) -/
def tLR (ta : TA) : TE := fun σ H Q => ta σ H fun vs H1 => ∃ j : Int, vs = [.int j] ∧ 0 ≤ j ∧ j ≤ 1000 ∧ ∀ l, H1 l = none → Q (.ref l) (upd H1 l (.lst ((List.range j.toNat).map fun i => V.int (i : Nat))))
theorem pe_listRange {a : Expr} {ta : TA} {p p2 pos pos2 : Pos} (hc : X.calm = true) (hg : Gl X "list") (hm : X.mg "list" = none) (hg2 : Gl X "range") (hm2 : X.mg "range" = none) (ha : PA X [a] ta) (hs : starEach [a] X.env = [(false, eval a X.env)] := by rfl)
    (he : starEach [.Call (.Name "range" p2) [a] [] pos2] X.env = [(false, eval (.Call (.Name "range" p2) [a] [] pos2) X.env)] := by rfl) : PE X (.Call (.Name "list" p) [.Call (.Name "range" p2) [a] [] pos2] [] pos) (tLR ta) := by
  intro pins s σ H Q I h
  refine wpAny_Call_Name_kw (ld_blt I hg hm PyProof.Rows.boot_list ?_)
  refine PyProof.Rows.callWith_type1 ?_ he rfl
  rw [he]
  show wpAny _ _ (spliced ((false, eval (.Call (.Name "range" p2) [a] [] pos2) X.env) :: backTo pos [])) _ _ s
  refine Calls.spliced_cons ?_
  refine Call_ (ld_blt I hg2 hm2 boot_range (PyProof.Rows.callWith_type1 (thn (ha pos2 pins s σ H _ I h) fun us s1 ⟨vs, H1, I1, r1, q1⟩ => ?_) hs rfl))
  obtain ⟨j, e, q1, q2, q⟩ := q1
  subst e
  cases r1 with
  | cons r rr =>
    cases rr
    obtain ⟨t, rfl⟩ := r
    refine call_range_1 (Calls.spliced_nil ?_)
    have I2 : Inv X pins σ H1 { s1 with heap := s1.heap.push { cls := .type "range", data := .fields #[.int 0 s1.toks, .int j t, .int 1 (s1.toks + 1)] }, toks := s1.toks + 1 + 1 } := I1.kept fun b o e => Heap.get?_push_of_some _ e
    refine call_list_range (n := j.toNat) (I1.ok.hd hc) (IsRange.new ..) (small_one (by omega) (by omega) (by omega) (by omega)) ?_ (by omega) ?_
    · rw [rangeSize_one]; split <;> omega
    · intro h' tk acc' c' hk hS hit
      have ex : ∃ its : List Value, acc' = its.toArray ∧ Vals ((List.range j.toNat).map fun i => V.int (i : Nat)) its := by
        refine ⟨acc'.toList, by simp, ?_⟩
        have hlen : acc'.toList.length = j.toNat := by rw [Array.length_toList]; exact hit.1
        refine vals_of (by simp [hlen]) fun i v hv => ?_
        have hi : i < j.toNat := by rw [← hlen]; exact (List.getElem?_eq_some_iff.mp hv).1
        obtain ⟨tk', e⟩ := hit.2 i v (by rw [← Array.getElem?_toList]; exact hv)
        refine ⟨.int (i : Nat), by simp [hi], tk', ?_⟩
        rw [e]
        simp
      obtain ⟨its, rfl, hv⟩ := ex
      refine ⟨.ref _, _, I2.laid (t' := tk) hk (Nat.le_refl _) (show ObjOk X.prog X.w _ h' _ (.lst _) from ⟨?_, its, c', hv, hS⟩), rfl, q _ (I2.hok.fresh (Nat.le_refl _))⟩
      rw [List.length_map, List.length_range]
      exact small60 (by omega)
end
end L2

set_option linter.all false
namespace Rl
/-! ## arcs as functions, and the machine that joins brackets -/
def tab (n : Nat) (f : Nat → Nat) : List Int := (List.range n).map fun i => (f i : Int)
theorem tab_length (n : Nat) (f : Nat → Nat) : (tab n f).length = n := by simp [tab]
theorem tab_get {n : Nat} {f : Nat → Nat} {i : Nat} (h : i < n) : (tab n f)[i]? = some (f i : Int) := by simp [tab, h]
theorem tab_getD {n : Nat} {f : Nat → Nat} {i : Nat} (h : i < n) : (tab n f).getD i 0 = (f i : Int) := by rw [List.getD_eq_getElem?_getD, tab_get h]; rfl
def put (f : Nat → Nat) (k v : Nat) : Nat → Nat := fun x => if x = k then v else f x
theorem tab_set {n : Nat} {f : Nat → Nat} {k v : Nat} (h : k < n) : (tab n f).set k (v : Int) = tab n (put f k v) := by
  apply List.ext_getElem?
  intro i
  by_cases hi : i < n
  · rw [tab_get hi, List.getElem?_set]
    unfold put
    by_cases e : i = k
    · subst e
      rw [if_pos rfl, if_pos rfl, if_pos (by rw [tab_length]; exact h)]
    · rw [if_neg (Ne.symm e), if_neg e, tab_get hi]
  · rw [List.getElem?_eq_none (by rw [List.length_set, tab_length]; omega), List.getElem?_eq_none (by rw [tab_length]; omega)]
theorem tab_congr {n : Nat} {f g : Nat → Nat} (h : ∀ i, i < n → f i = g i) : tab n f = tab n g := by
  apply List.ext_getElem?
  intro i
  by_cases hi : i < n
  · rw [tab_get hi, tab_get hi, h i hi]
  · rw [List.getElem?_eq_none (by rw [tab_length]; omega), List.getElem?_eq_none (by rw [tab_length]; omega)]
theorem tab_zero (n : Nat) : List.replicate n (0 : Int) = tab n (fun _ => 0) := by
  apply List.ext_getElem?
  intro i
  by_cases hi : i < n
  · rw [tab_get hi]; simp [hi]
  · rw [List.getElem?_eq_none (by simp; omega), List.getElem?_eq_none (by rw [tab_length]; omega)]

structure IsArcs (n : Nat) (f : Nat → Nat) : Prop where
  lt : ∀ i, i < n → f i < n
  ne : ∀ i, i < n → f i ≠ i
  back : ∀ i, i < n → f (f i) = i
  cross : ∀ i j, i < n → j < n → ¬ (i < j ∧ j < f i ∧ f i < f j)

/-- the machine: b the brackets, S the open ones, f the partners so far -/
structure Run (b : Nat → Bool) (k : Nat) (f : Nat → Nat) (S : List Nat) : Prop where
  sorted : S.Pairwise (· < ·)
  lt : ∀ i, i ∈ S → i < k
  pair : ∀ i, i < k → i ∉ S → f i < k ∧ f i ∉ S ∧ f i ≠ i ∧ f (f i) = i
  inopen : ∀ i, i < k → i ∉ S → ∀ w, w ∈ S → ¬ (i < w ∧ w < f i)
  cross : ∀ i j, i < k → j < k → i ∉ S → j ∉ S → ¬ (i < j ∧ j < f i ∧ f i < f j)
  dir : ∀ i, i < k → i ∉ S → (b i = true ↔ i < f i)
  opn : ∀ i, i ∈ S → b i = true
theorem Run.start (b : Nat → Bool) (f : Nat → Nat) : Run b 0 f [] :=
  ⟨List.Pairwise.nil, fun _ h => (nomatch h), fun _ h => absurd h (Nat.not_lt_zero _), fun _ h => absurd h (Nat.not_lt_zero _), fun _ _ h => absurd h (Nat.not_lt_zero _), fun _ h => absurd h (Nat.not_lt_zero _), fun _ h => (nomatch h)⟩
theorem Run.push {b : Nat → Bool} {k : Nat} {f : Nat → Nat} {S : List Nat} (r : Run b k f S) (hb : b k = true) : Run b (k + 1) f (S ++ [k]) := by
  have old : ∀ i, i < k + 1 → i ∉ S ++ [k] → i < k ∧ i ∉ S := fun i hi hn => by
    rw [List.mem_append] at hn
    have h1 : i ∉ S := fun z => hn (.inl z)
    have h2 : i ≠ k := fun z => hn (.inr (by simp [z]))
    exact ⟨by omega, h1⟩
  refine ⟨?_, ?_, ?_, ?_, ?_, ?_, ?_⟩
  · rw [List.pairwise_append]
    refine ⟨r.sorted, List.pairwise_singleton _ _, fun x hx y hy => ?_⟩
    rw [List.mem_singleton] at hy
    rw [hy]; exact r.lt x hx
  · intro i hi
    rcases List.mem_append.mp hi with z | z
    · exact Nat.lt_succ_of_lt (r.lt i z)
    · rw [List.mem_singleton] at z; omega
  · intro i hi hn
    obtain ⟨h1, h2⟩ := old i hi hn
    obtain ⟨p1, p2, p3, p4⟩ := r.pair i h1 h2
    refine ⟨by omega, fun z => ?_, p3, p4⟩
    rcases List.mem_append.mp z with z | z
    · exact p2 z
    · rw [List.mem_singleton] at z; omega
  · intro i hi hn w hw
    obtain ⟨h1, h2⟩ := old i hi hn
    rcases List.mem_append.mp hw with z | z
    · exact r.inopen i h1 h2 w z
    · rw [List.mem_singleton] at z
      have := (r.pair i h1 h2).1
      omega
  · intro i j hi hj ni nj
    obtain ⟨h1, h2⟩ := old i hi ni
    obtain ⟨h3, h4⟩ := old j hj nj
    exact r.cross i j h1 h3 h2 h4
  · intro i hi hn
    obtain ⟨h1, h2⟩ := old i hi hn
    exact r.dir i h1 h2
  · intro i hi
    rcases List.mem_append.mp hi with z | z
    · exact r.opn i z
    · rw [List.mem_singleton] at z; rw [z]; exact hb
theorem Run.pop {b : Nat → Bool} {k t : Nat} {f : Nat → Nat} {S : List Nat} (r : Run b k f (S ++ [t])) (hb : b k = false) : Run b (k + 1) (put (put f k t) t k) S := by
  have tk : t < k := r.lt t (by simp)
  have srt := List.pairwise_append.mp r.sorted
  have tS : t ∉ S := fun z => absurd (srt.2.2 t z t (by simp)) (Nat.lt_irrefl _)
  have kS : k ∉ S := fun z => absurd (r.lt k (by simp [z])) (Nat.lt_irrefl _)
  have gk : put (put f k t) t k k = t := by unfold put; rw [if_neg (by omega), if_pos rfl]
  have gt : put (put f k t) t k t = k := by unfold put; rw [if_pos rfl]
  have go : ∀ i, i ≠ k → i ≠ t → put (put f k t) t k i = f i := fun i h1 h2 => by unfold put; rw [if_neg h2, if_neg h1]
  have old : ∀ i, i < k + 1 → i ∉ S → i ≠ k → i ≠ t → i < k ∧ i ∉ S ++ [t] := fun i hi hn h1 h2 => ⟨by omega, fun z => by
    rcases List.mem_append.mp z with z | z
    · exact hn z
    · rw [List.mem_singleton] at z; exact h2 z⟩
  have gl : ∀ i, i < k + 1 → i ∉ S → put (put f k t) t k i < k + 1 := fun i hi hn => by
    by_cases e1 : i = k
    · rw [e1, gk]; omega
    · by_cases e2 : i = t
      · rw [e2, gt]; omega
      · obtain ⟨h1, h2⟩ := old i hi hn e1 e2
        rw [go i e1 e2]
        have := (r.pair i h1 h2).1
        omega
  refine ⟨srt.1, fun i hi => Nat.lt_succ_of_lt (r.lt i (by simp [hi])), ?_, ?_, ?_, ?_, fun i hi => r.opn i (by simp [hi])⟩
  · intro i hi hn
    by_cases e1 : i = k
    · subst e1; rw [gk, gt]; exact ⟨by omega, tS, by omega, rfl⟩
    · by_cases e2 : i = t
      · subst e2; rw [gt, gk]; exact ⟨by omega, kS, by omega, rfl⟩
      · obtain ⟨h1, h2⟩ := old i hi hn e1 e2
        obtain ⟨p1, p2, p3, p4⟩ := r.pair i h1 h2
        have q1 : f i ≠ t := fun z => p2 (by simp [z])
        rw [go i e1 e2, go (f i) (by omega) q1]
        exact ⟨by omega, fun z => p2 (by simp [z]), p3, p4⟩
  · intro i hi hn w hw
    by_cases e1 : i = k
    · subst e1; rw [gk]; omega
    · by_cases e2 : i = t
      · subst e2
        have := srt.2.2 w hw i (by simp)
        omega
      · obtain ⟨h1, h2⟩ := old i hi hn e1 e2
        rw [go i e1 e2]
        exact r.inopen i h1 h2 w (by simp [hw])
  · intro i j hi hj ni nj
    have lj := gl j hj nj
    by_cases e1 : i = k
    · subst e1; omega
    · by_cases e2 : i = t
      · subst e2; rw [gt]; omega
      · obtain ⟨h1, h2⟩ := old i hi ni e1 e2
        have p1 := (r.pair i h1 h2).1
        rw [go i e1 e2]
        by_cases e3 : j = k
        · subst e3; omega
        · by_cases e4 : j = t
          · subst e4
            have := r.inopen i h1 h2 j (by simp)
            omega
          · obtain ⟨h3, h4⟩ := old j hj nj e3 e4
            rw [go j e3 e4]
            exact r.cross i j h1 h3 h2 h4
  · intro i hi hn
    by_cases e1 : i = k
    · subst e1; rw [gk, hb]; constructor
      · intro z; cases z
      · intro z; omega
    · by_cases e2 : i = t
      · subst e2; rw [gt]
        exact ⟨fun _ => tk, fun _ => r.opn i (by simp)⟩
      · obtain ⟨h1, h2⟩ := old i hi hn e1 e2
        rw [go i e1 e2]
        exact r.dir i h1 h2
theorem Run.done {b : Nat → Bool} {n : Nat} {f : Nat → Nat} (r : Run b n f []) : IsArcs n f ∧ ∀ i, i < n → (b i = true ↔ i < f i) :=
  ⟨⟨fun i h => (r.pair i h (by simp)).1, fun i h => (r.pair i h (by simp)).2.2.1, fun i h => (r.pair i h (by simp)).2.2.2, fun i j h1 h2 => r.cross i j h1 h2 (by simp) (by simp)⟩, fun i h => r.dir i h (by simp)⟩

/-! ## the open ones ahead of a place -/
def opens (f : Nat → Nat) (k : Nat) : List Nat := (List.range k).filter fun i => decide (k ≤ f i)
theorem mem_opens {f : Nat → Nat} {k i : Nat} : i ∈ opens f k ↔ i < k ∧ k ≤ f i := by simp [opens]
theorem opens_sorted (f : Nat → Nat) (k : Nat) : (opens f k).Pairwise (· < ·) := (List.pairwise_lt_range).filter _
theorem opens_push {f : Nat → Nat} {k : Nat} (pair : ∀ i, i < k → f i = k → f k = i) (h : k < f k) : opens f (k + 1) = opens f k ++ [k] := by
  unfold opens
  rw [List.range_succ, List.filter_append]
  congr 1
  · apply List.filter_congr
    intro i hi
    rw [List.mem_range] at hi
    have : f i ≠ k := fun e => by have := pair i hi e; omega
    rw [decide_eq_decide]
    omega
  · simp; omega
/-- the last of a sorted list is its greatest -/
theorem last_ge : ∀ {S : List Nat} {t : Nat}, S.Pairwise (· < ·) → S.getLast? = some t → ∀ w, w ∈ S → w ≤ t := by
  intro S t hs hl w hw
  obtain ⟨S', rfl⟩ := List.getLast?_eq_some_iff.mp hl
  rcases List.mem_append.mp hw with z | z
  · exact Nat.le_of_lt ((List.pairwise_append.mp hs).2.2 w z t (by simp))
  · rw [List.mem_singleton] at z; omega
theorem opens_pop {f : Nat → Nat} {k : Nat} (pair : ∀ i, i < k → (f i = k ↔ i = f k)) (h : f k < k) (hl : (opens f k).getLast? = some (f k)) : opens f (k + 1) = (opens f k).dropLast := by
  obtain ⟨S, hS⟩ := List.getLast?_eq_some_iff.mp hl
  have srt := opens_sorted f k
  rw [hS] at srt ⊢
  rw [List.dropLast_concat]
  have e1 : opens f (k + 1) = (opens f k).filter fun i => decide (i ≠ f k) := by
    unfold opens
    rw [List.range_succ, List.filter_append, List.filter_filter]
    have : List.filter (fun i => decide (k + 1 ≤ f i)) [k] = [] := by simp; omega
    rw [this, List.append_nil]
    apply List.filter_congr
    intro i hi
    rw [List.mem_range] at hi
    have := pair i hi
    rw [← Bool.decide_and, decide_eq_decide]
    constructor
    · intro z; exact ⟨fun y => by have := this.mpr y; omega, by omega⟩
    · intro ⟨z, y⟩
      have : f i ≠ k := fun q => z (this.mp q)
      omega
  rw [e1, hS, List.filter_append]
  have e2 : List.filter (fun i => decide (i ≠ f k)) [f k] = [] := by simp
  rw [e2, List.append_nil]
  apply List.filter_eq_self.mpr
  intro i hi
  have := (List.pairwise_append.mp srt).2.2 i hi (f k) (by simp)
  simp; omega
/-- .. of arcs it is the partner, where an arc ends -/
theorem opens_last {n : Nat} {f : Nat → Nat} {k : Nat} (A : IsArcs n f) (hk : k < n) (h : f k < k) : (opens f k).getLast? = some (f k) := by
  have hm : f k ∈ opens f k := mem_opens.mpr ⟨h, by rw [A.back k hk]; exact Nat.le_refl _⟩
  obtain ⟨t, ht⟩ : ∃ t, (opens f k).getLast? = some t := by
    cases e : (opens f k).getLast? with
    | none => rw [List.getLast?_eq_none_iff] at e; rw [e] at hm; cases hm
    | some t => exact ⟨t, rfl⟩
  have hge := last_ge (opens_sorted f k) ht (f k) hm
  have htm : t ∈ opens f k := List.mem_of_getLast? ht
  obtain ⟨h1, h2⟩ := mem_opens.mp htm
  by_cases e : t = f k
  · rw [ht, e]
  · exfalso
    have tn : t < n := by omega
    have : f t ≠ k := fun z => e (by rw [← z, A.back t tn])
    have hc := A.cross (f k) t (A.lt k hk) tn
    rw [A.back k hk] at hc
    omega
theorem opens_end {n : Nat} {f : Nat → Nat} (A : IsArcs n f) : opens f n = [] := by
  apply List.eq_nil_iff_forall_not_mem.mpr
  intro i hi
  obtain ⟨h1, h2⟩ := mem_opens.mp hi
  have := A.lt i h1
  omega
end Rl

set_option linter.all false
namespace Rl
/-! ## what the program's tests are worth -/
def isLenM (b : Int) : Bool := decide (b % 2 = 0) && (decide (2 ≤ b) && decide (b ≤ 40))
def leadsBackM (xs : List Int) (i : Int) : Bool :=
  decide (0 ≤ xs.getD i.toNat 0) && (decide (xs.getD i.toNat 0 < xs.length) && (decide (xs.getD i.toNat 0 ≠ i) && decide (xs.getD (xs.getD i.toNat 0).toNat 0 = i)))
def allBackM (xs : List Int) : Bool := (List.range xs.length).all fun i => leadsBackM xs i
def noCrossM (xs : List Int) : Bool := decide (∀ i, i < xs.length → ∀ j, j < xs.length → ¬ (i < j ∧ (j : Int) < xs.getD i 0 ∧ xs.getD i 0 < xs.getD j 0))
def isArcsM (xs : List Int) : Bool := isLenM xs.length && (allBackM xs && noCrossM xs)
/-- the bridges joined by pairs -/
structure Pairs (n : Nat) (f : Nat → Nat) : Prop where
  lt : ∀ i, i < n → f i < n
  ne : ∀ i, i < n → f i ≠ i
  back : ∀ i, i < n → f (f i) = i
theorem IsArcs.pairs {n : Nat} {f : Nat → Nat} (A : IsArcs n f) : Pairs n f := ⟨A.lt, A.ne, A.back⟩
theorem leads_tab {n : Nat} {f : Nat → Nat} {i : Nat} (h : i < n) (A : Pairs n f) : leadsBackM (tab n f) i = true := by
  unfold leadsBackM
  simp only [Int.toNat_natCast, tab_getD h, tab_getD (A.lt i h), tab_length, A.back i h]
  have h1 := A.lt i h
  have h2 := A.ne i h
  simp
  omega
theorem allBack_tab {n : Nat} {f : Nat → Nat} (A : Pairs n f) : allBackM (tab n f) = true := by
  unfold allBackM
  rw [List.all_eq_true]
  intro i hi
  rw [List.mem_range, tab_length] at hi
  exact leads_tab hi A
theorem allBack_of {xs : List Int} (h : allBackM xs = true) : ∃ f, xs = tab xs.length f ∧ Pairs xs.length f := by
  have hb : ∀ i, i < xs.length → 0 ≤ xs.getD i 0 ∧ xs.getD i 0 < xs.length ∧ xs.getD i 0 ≠ i ∧ xs.getD (xs.getD i 0).toNat 0 = i := fun i hi => by
    have := List.all_eq_true.mp h i (List.mem_range.mpr hi)
    unfold leadsBackM at this
    simpa using this
  refine ⟨fun i => (xs.getD i 0).toNat, ?_, ⟨fun i hi => ?_, fun i hi => ?_, fun i hi => ?_⟩⟩
  · apply List.ext_getElem?
    intro i
    by_cases hi : i < xs.length
    · rw [tab_get hi, List.getElem?_eq_getElem hi]
      have := (hb i hi).1
      rw [List.getD_eq_getElem?_getD, List.getElem?_eq_getElem hi] at this ⊢
      simp at this ⊢
      omega
    · rw [List.getElem?_eq_none (by omega), List.getElem?_eq_none (by rw [tab_length]; omega)]
  · have := hb i hi; omega
  · have := hb i hi; omega
  · have := hb i hi; omega
theorem noCross_tab {n : Nat} {f : Nat → Nat} : noCrossM (tab n f) = true ↔ ∀ i j, i < n → j < n → ¬ (i < j ∧ j < f i ∧ f i < f j) := by
  unfold noCrossM
  rw [decide_eq_true_eq, tab_length]
  constructor
  · intro h i j hi hj z
    apply h i hi j hj
    rw [tab_getD hi, tab_getD hj]
    omega
  · intro h i hi j hj z
    rw [tab_getD hi, tab_getD hj] at z
    exact h i j hi hj (by omega)
theorem isArcs_tab {n : Nat} {f : Nat → Nat} (A : IsArcs n f) (h2 : n % 2 = 0) (h0 : 2 ≤ n) (h1 : n ≤ 40) : isArcsM (tab n f) = true := by
  unfold isArcsM isLenM
  rw [allBack_tab A.pairs, noCross_tab.mpr A.cross, tab_length]
  simp
  omega
theorem isArcs_of {xs : List Int} (h : isArcsM xs = true) : ∃ f, xs = tab xs.length f ∧ IsArcs xs.length f ∧ xs.length % 2 = 0 ∧ 2 ≤ xs.length ∧ xs.length ≤ 40 := by
  unfold isArcsM at h
  rw [Bool.and_eq_true, Bool.and_eq_true] at h
  obtain ⟨h1, h2, h3⟩ := h
  obtain ⟨f, e, A⟩ := allBack_of h2
  unfold isLenM at h1
  simp at h1
  rw [e] at h3
  exact ⟨f, e, ⟨A.lt, A.ne, A.back, noCross_tab.mp h3⟩, by omega, by omega, by omega⟩
/-! ## a walk with the waiting ones finds out whether any two cross -/
theorem mem_last {f : Nat → Nat} {n k : Nat} (A : Pairs n f) (hk : k < n) (h : f k < k) : ∃ S t, opens f k = S ++ [t] := by
  have hm : f k ∈ opens f k := mem_opens.mpr ⟨h, by rw [A.back k hk]; exact Nat.le_refl _⟩
  cases e : (opens f k).getLast? with
  | none => rw [List.getLast?_eq_none_iff] at e; rw [e] at hm; cases hm
  | some t => exact ⟨_, t, (List.getLast?_eq_some_iff.mp e).choose_spec⟩
theorem cross_found {f : Nat → Nat} {n k t : Nat} {S : List Nat} (A : Pairs n f) (hk : k < n) (h : f k < k) (hS : opens f k = S ++ [t]) (ht : t ≠ f k) : ¬ ∀ i j, i < n → j < n → ¬ (i < j ∧ j < f i ∧ f i < f j) := by
  intro z
  have hl : (opens f k).getLast? = some t := by rw [hS]; simp
  have hm : f k ∈ opens f k := mem_opens.mpr ⟨h, by rw [A.back k hk]; exact Nat.le_refl _⟩
  have hge := last_ge (opens_sorted f k) hl (f k) hm
  obtain ⟨h1, h2⟩ := mem_opens.mp (List.mem_of_getLast? hl)
  have tn : t < n := by omega
  have : f t ≠ k := fun z => ht (by rw [← z, A.back t tn])
  have hc := z (f k) t (A.lt k hk) tn
  rw [A.back k hk] at hc
  omega
theorem no_cross_end {f : Nat → Nat} {n : Nat} (A : Pairs n f) (h : ∀ t, t < n → f t < t → (opens f t).getLast? = some (f t)) : ∀ i j, i < n → j < n → ¬ (i < j ∧ j < f i ∧ f i < f j) := by
  intro i j hi hj ⟨h1, h2, h3⟩
  have ht := A.lt i hi
  have hb := A.back i hi
  have hl := h (f i) ht (by omega)
  rw [hb] at hl
  have := last_ge (opens_sorted f (f i)) hl j (mem_opens.mpr ⟨h2, by omega⟩)
  omega
theorem Pairs.iffk {f : Nat → Nat} {n k : Nat} (A : Pairs n f) (hk : k < n) : ∀ i, i < k → (f i = k ↔ i = f k) := fun i hi =>
  ⟨fun e => by rw [← e, A.back i (by omega)], fun e => by rw [e, A.back k hk]⟩
/-! ## the draw -/
def cellAt (ns : List Int) (k : Int) : Int := ns.getD k.toNat 0
/-! ## words -/
def word (n : Nat) (f : Nat → Nat) : List Nat := (List.range n).map fun k => if k < f k then 40 else 41
theorem word_length (n : Nat) (f : Nat → Nat) : (word n f).length = n := by simp [word]
theorem word_get {n : Nat} {f : Nat → Nat} {k : Nat} (h : k < n) : (word n f)[k]? = some (if k < f k then 40 else 41) := by simp [word, h]
end Rl
namespace Rl
theorem Run.re {b b' : Nat → Bool} {k : Nat} {f : Nat → Nat} {S : List Nat} (r : Run b k f S) (h : ∀ i, i < k → b i = b' i) : Run b' k f S :=
  ⟨r.sorted, r.lt, r.pair, r.inopen, r.cross, fun i hi hn => by rw [← h i hi]; exact r.dir i hi hn, fun i hi => by rw [← h i (r.lt i hi)]; exact r.opn i hi⟩
theorem Run.pushB {b : Nat → Bool} {k : Nat} {f : Nat → Nat} {S : List Nat} (r : Run b k f S) : Run (fun x => if x = k then true else b x) (k + 1) f (S ++ [k]) :=
  Run.push (r.re fun i hi => by rw [if_neg (by omega)]) (by simp)
theorem Run.popB {b : Nat → Bool} {k t : Nat} {f : Nat → Nat} {S : List Nat} (r : Run b k f (S ++ [t])) : Run (fun x => if x = k then false else b x) (k + 1) (put (put f k t) t k) S :=
  Run.pop (r.re fun i hi => by rw [if_neg (by omega)]) (by simp)
theorem ex_last {α : Type} {S : List α} (h : 0 < S.length) : ∃ S' t, S = S' ++ [t] := by
  have hn : S ≠ [] := fun z => by rw [z] at h; exact absurd h (Nat.lt_irrefl _)
  exact ⟨S.dropLast, S.getLast hn, (List.dropLast_concat_getLast hn).symm⟩
end Rl
namespace Rl
/-- the partners of the arcs that have ended ahead of a place -/
def part (g : Nat → Nat) (i : Nat) : Nat → Nat := fun j => if j < i ∧ g j < i then g j else 0
theorem part_zero {n : Nat} {g : Nat → Nat} : tab n (part g 0) = tab n (fun _ => 0) := tab_congr fun i _ => by unfold part; rw [if_neg (by omega)]
theorem part_push {n : Nat} {g : Nat → Nat} {i : Nat} (A : Pairs n g) (hi : i < n) (h : i < g i) : tab n (part g (i + 1)) = tab n (part g i) := tab_congr fun j hj => by
  unfold part
  have := A.back j hj
  by_cases e : g j = i
  · rw [e] at this; rw [if_neg (by omega), if_neg (by omega)]
  · by_cases e2 : j = i
    · subst e2; rw [if_neg (by omega), if_neg (by omega)]
    · by_cases q : j < i ∧ g j < i
      · rw [if_pos q, if_pos (by omega)]
      · rw [if_neg q, if_neg (by omega)]
theorem part_pop {n : Nat} {g : Nat → Nat} {i : Nat} (A : Pairs n g) (hi : i < n) (h : g i < i) : tab n (part g (i + 1)) = tab n (put (put (part g i) (g i) i) i (g i)) := tab_congr fun j hj => by
  have := A.back j hj
  have hb := A.back i hi
  unfold put part
  by_cases e2 : j = i
  · subst e2; rw [if_pos (by omega), if_pos rfl]
  · rw [if_neg e2]
    by_cases e : j = g i
    · subst e; rw [hb, if_pos (by omega), if_pos rfl]
    · rw [if_neg e]
      have e3 : g j ≠ i := fun z => e (by rw [← z, this])
      by_cases q : j < i ∧ g j < i
      · rw [if_pos q, if_pos (by omega)]
      · rw [if_neg q, if_neg (by omega)]
theorem part_end {n : Nat} {g : Nat → Nat} (A : Pairs n g) : tab n (part g n) = tab n g := tab_congr fun j hj => by
  unfold part
  rw [if_pos ⟨hj, A.lt j hj⟩]
end Rl

set_option linter.all false
namespace Rl
/-! ## turned, mirrored, side by side, covered -/
/-- the place b on, round -/
def rot (n : Nat) (b : Int) (i : Nat) : Nat := (((i : Int) + b) % (n : Int)).toNat
/-- arcs turned by b -/
def turnF (n : Nat) (g : Nat → Nat) (b : Int) : Nat → Nat := fun i => rot n b (g (rot n (-b) i))
/-- mirrored -/
def mirF (n : Nat) (g : Nat → Nat) : Nat → Nat := fun i => n - 1 - g (n - 1 - i)
/-- side by side -/
def sideF (n : Nat) (g k : Nat → Nat) : Nat → Nat := fun i => if i < n then g i else n + k (i - n)
/-- covered -/
def covF (n : Nat) (g : Nat → Nat) : Nat → Nat := fun i => if i = 0 then n + 1 else if i = n + 1 then 0 else g (i - 1) + 1
end Rl

set_option linter.all false
namespace Rl
theorem put_comm (f : Nat → Nat) {t k : Nat} (h : t ≠ k) : put (put f t k) k t = put (put f k t) t k := by
  funext x
  unfold put
  by_cases a : x = k
  · subst a; rw [if_pos rfl, if_neg (Ne.symm h), if_pos rfl]
  · rw [if_neg a]
    by_cases b : x = t
    · subst b; rw [if_pos rfl, if_pos rfl]
    · rw [if_neg b, if_neg b, if_neg a]
theorem opens_same {n : Nat} {g g' : Nat → Nat} (A : IsArcs n g) (A' : IsArcs n g') (h : ∀ k, k < n → (k < g k ↔ k < g' k)) : ∀ i, i ≤ n → opens g i = opens g' i
  | 0, _ => rfl
  | i + 1, hi => by
    have ih := opens_same A A' h i (by omega)
    have hk := h i (by omega)
    by_cases c : i < g i
    · rw [opens_push (fun j hj e => by rw [← e, A.back j (by omega)]) c, opens_push (fun j hj e => by rw [← e, A'.back j (by omega)]) (hk.mp c), ih]
    · have c1 : g i < i := by have := A.ne i (by omega); omega
      have c2 : g' i < i := by
        have := A'.ne i (by omega)
        have : ¬ i < g' i := fun z => c (hk.mpr z)
        omega
      rw [opens_pop (A.pairs.iffk (by omega)) c1 (opens_last A (by omega) c1), opens_pop (A'.pairs.iffk (by omega)) c2 (opens_last A' (by omega) c2), ih]
theorem arcs_same {n : Nat} {g g' : Nat → Nat} (A : IsArcs n g) (A' : IsArcs n g') (h : ∀ k, k < n → (k < g k ↔ k < g' k)) : ∀ k, k < n → g k = g' k := by
  have low : ∀ k, k < n → g k < k → g k = g' k := fun k hk c => by
    have c2 : g' k < k := by
      have := A'.ne k hk
      have : ¬ k < g' k := fun z => by have := (h k hk).mpr z; omega
      omega
    have e := opens_last A hk c
    rw [opens_same A A' h k (by omega), opens_last A' hk c2] at e
    exact (Option.some.inj e).symm
  intro k hk
  by_cases c : g k < k
  · exact low k hk c
  · have hne := A.ne k hk
    have hl := A.lt k hk
    have hb := A.back k hk
    have e := low (g k) hl (by omega)
    rw [hb] at e
    have := A'.back (g k) hl
    rw [← e] at this
    exact this.symm
end Rl

set_option linter.all false
namespace Rl
open Classical
/-! ## points that hang together, and how many heaps of them there are -/
inductive Conn {α : Type} (R : α → α → Prop) : α → α → Prop where
  | refl (a : α) : Conn R a a
  | step {a b c : α} : Conn R a b → (R b c ∨ R c b) → Conn R a c
section
variable {α β : Type} {R S : α → α → Prop}
theorem Conn.one {a b : α} (h : R a b) : Conn R a b := .step (.refl a) (.inl h)
theorem Conn.trans {a b c : α} (h : Conn R a b) (k : Conn R b c) : Conn R a c := by
  induction k with
  | refl => exact h
  | step _ r ih => exact .step ih r
theorem Conn.symm {a b : α} (h : Conn R a b) : Conn R b a := by
  induction h with
  | refl => exact .refl _
  | step _ r ih => exact Conn.trans (.step (.refl _) r.symm) ih
/-- every tie of the one is a way in the other -/
theorem Conn.lift {T : β → β → Prop} {f : α → β} (h : ∀ a b, R a b → Conn T (f a) (f b)) {a b : α} (k : Conn R a b) : Conn T (f a) (f b) := by
  induction k with
  | refl => exact .refl _
  | step _ r ih =>
    rcases r with r | r
    · exact ih.trans (h _ _ r)
    · exact ih.trans (h _ _ r).symm
theorem Conn.mono (h : ∀ a b, R a b → S a b) {a b : α} (k : Conn R a b) : Conn S a b := Conn.lift (f := id) (fun a b r => .one (h a b r)) k

/-- one of each heap -/
noncomputable def reps (E : α → α → Prop) : List α → List α
  | [] => []
  | a :: l => if ∃ b, b ∈ l ∧ E a b then reps E l else a :: reps E l
noncomputable def cls (E : α → α → Prop) (l : List α) : Nat := (reps E l).length
structure Eqv (E : α → α → Prop) : Prop where
  refl : ∀ a, E a a
  symm : ∀ a b, E a b → E b a
  trans : ∀ a b c, E a b → E b c → E a c
theorem Conn.eqv : Eqv (Conn R) := ⟨.refl, fun _ _ h => h.symm, fun _ _ _ h k => h.trans k⟩
variable {E : α → α → Prop}
theorem reps_sub : ∀ {l : List α} {a : α}, a ∈ reps E l → a ∈ l
  | [], _, h => nomatch h
  | b :: l, a, h => by
    unfold reps at h
    split at h
    · exact List.mem_cons_of_mem _ (reps_sub h)
    · rcases List.mem_cons.mp h with z | z
      · rw [z]; exact List.mem_cons_self
      · exact List.mem_cons_of_mem _ (reps_sub z)
theorem reps_apart : ∀ (l : List α), (reps E l).Pairwise fun a b => ¬ E a b
  | [] => .nil
  | b :: l => by
    unfold reps
    split
    · exact reps_apart l
    · rename_i h
      exact .cons (fun c hc e => h ⟨c, reps_sub hc, e⟩) (reps_apart l)
theorem reps_all (v : Eqv E) : ∀ {l : List α} {a : α}, a ∈ l → ∃ b, b ∈ reps E l ∧ E a b
  | b :: l, a, h => by
    unfold reps
    rcases List.mem_cons.mp h with z | z
    · subst z
      by_cases c : ∃ b, b ∈ l ∧ E a b
      · rw [if_pos c]
        obtain ⟨b, hb, e⟩ := c
        obtain ⟨d, hd, e'⟩ := reps_all v hb
        exact ⟨d, hd, v.trans _ _ _ e e'⟩
      · rw [if_neg c]
        exact ⟨a, List.mem_cons_self, v.refl a⟩
    · obtain ⟨d, hd, e⟩ := reps_all v z
      by_cases c : ∃ a, a ∈ l ∧ E b a
      · rw [if_pos c]; exact ⟨d, hd, e⟩
      · rw [if_neg c]; exact ⟨d, List.mem_cons_of_mem _ hd, e⟩
/-- a list whose members are told apart by what they meet there is no longer than that one -/
theorem length_le_rel {γ : Type} {C : α → γ → Prop} : ∀ {l : List α} {m : List γ}, l.Pairwise (fun a b => ∀ c, C a c → C b c → False) → (∀ a, a ∈ l → ∃ c, c ∈ m ∧ C a c) → l.length ≤ m.length
  | [], m, _, _ => Nat.zero_le _
  | a :: l, m, hp, hm => by
    have hp' := List.pairwise_cons.mp hp
    obtain ⟨c, hc, ca⟩ := hm a List.mem_cons_self
    obtain ⟨m1, m2, e⟩ := List.append_of_mem hc
    have ih := length_le_rel (l := l) (m := m1 ++ m2) hp'.2 (fun b hb => by
      obtain ⟨d, hd, cd⟩ := hm b (List.mem_cons_of_mem _ hb)
      rw [e] at hd
      rcases List.mem_append.mp hd with z | z
      · exact ⟨d, List.mem_append_left _ z, cd⟩
      · rcases List.mem_cons.mp z with z | z
        · rw [z] at cd; exact (hp'.1 b hb c ca cd).elim
        · exact ⟨d, List.mem_append_right _ z, cd⟩)
    rw [e, List.length_append, List.length_cons]
    rw [List.length_append] at ih
    rw [List.length_cons]
    omega
theorem cls_le {F : β → β → Prop} (v : Eqv F) {l : List α} {m : List β} {C : α → β → Prop} (h : ∀ a a' b b', a ∈ l → a' ∈ l → b ∈ m → b' ∈ m → C a b → C a' b' → F b b' → E a a') (hm : ∀ a, a ∈ l → ∃ b, b ∈ m ∧ C a b) : cls E l ≤ cls F m := by
  refine length_le_rel (C := fun a d => ∃ b, b ∈ m ∧ C a b ∧ F b d) ?_ fun a ha => ?_
  · refine (List.Pairwise.and_mem.mp (reps_apart (E := E) l)).imp ?_
    rintro a a' ⟨ha, ha', ne⟩ c ⟨b, hb, cb, e⟩ ⟨b', hb', cb', e'⟩
    exact ne (h a a' b b' (reps_sub ha) (reps_sub ha') hb hb' cb cb' (v.trans _ _ _ e (v.symm _ _ e')))
  · obtain ⟨b, hb, cb⟩ := hm a (reps_sub ha)
    obtain ⟨d, hd, e⟩ := reps_all v hb
    exact ⟨d, hd, b, hb, cb, e⟩
/-- told over by another name -/
theorem cls_eq {F : β → β → Prop} (u : Eqv E) (v : Eqv F) {l : List α} {m : List β} (f : α → β) (h : ∀ a b, a ∈ l → b ∈ l → (E a b ↔ F (f a) (f b))) (hf : ∀ a, a ∈ l → f a ∈ m) (hm : ∀ b, b ∈ m → ∃ a, a ∈ l ∧ F (f a) b) : cls E l = cls F m := by
  refine Nat.le_antisymm (cls_le v (C := fun a b => b = f a) ?_ fun a ha => ⟨f a, hf a ha, rfl⟩) (cls_le u (C := fun b a => F (f a) b) ?_ hm)
  · rintro a a' b b' ha ha' _ _ rfl rfl e
    exact (h a a' ha ha').mpr e
  · intro b b' a a' _ _ ha ha' c c' e
    exact v.trans _ _ _ (v.symm _ _ c) (v.trans _ _ _ ((h a a' ha ha').mp e) c')
theorem cls_cons (a : α) (l : List α) : cls E (a :: l) = if ∃ b, b ∈ l ∧ E a b then cls E l else cls E l + 1 := by
  unfold cls
  rw [show reps E (a :: l) = if ∃ b, b ∈ l ∧ E a b then reps E l else a :: reps E l from rfl]
  split <;> rfl
/-- as many as are told apart, each of the points hanging with one of them -/
theorem cls_reps (u : Eqv E) {l r : List α} (hr : r.Pairwise fun a b => ¬ E a b) (hs : ∀ a, a ∈ r → a ∈ l) (h : ∀ a, a ∈ l → ∃ b, b ∈ r ∧ E a b) : cls E l = r.length := by
  have e : cls E r = cls E l := cls_eq u u (f := fun x => x) (fun _ _ _ _ => Iff.rfl) hs fun b hb => by
    obtain ⟨c, hc, q⟩ := h b hb
    exact ⟨c, hc, u.symm _ _ q⟩
  rw [← e]
  clear e hs h
  induction r with
  | nil => rfl
  | cons a r ih =>
    have hp := List.pairwise_cons.mp hr
    rw [cls_cons, if_neg (by rintro ⟨b, hb, q⟩; exact hp.1 b hb q), ih hp.2, List.length_cons]
end
end Rl

set_option linter.all false
namespace Rl
open Classical
/-! ## a part that is put for a greater one -/
section
variable {α β : Type} {B : α → α → Prop} {S : β → β → Prop}
/-- g puts the small one's points into the great one, r takes the great one's points back, but those that hang with none (the rings) -/
structure Retract (B : α → α → Prop) (S : β → β → Prop) (g : β → α) (ring : α → Prop) (r : α → β) : Prop where
  up : ∀ u v, S u v → Conn B (g u) (g v)
  rg : ∀ p q, B p q → (ring p ↔ ring q)
  down : ∀ p q, B p q → ¬ ring p → Conn S (r p) (r q)
  back : ∀ u, Conn S (r (g u)) u
end

/-! ## roads -/
/-- the ties of the arcs above and below -/
def Ties (n : Nat) (a b : Nat → Nat) : Nat → Nat → Prop := fun i j => i < n ∧ (j = a i ∨ j = b i)
/-- how many roads -/
noncomputable def many (n : Nat) (a b : Nat → Nat) : Nat := cls (Conn (Ties n a b)) (List.range n)
/-- bridges told over: f keeps apart, and keeps the arcs -/
structure Names (n m : Nat) (a b a' b' : Nat → Nat) (f : Nat → Nat) : Prop where
  lt : ∀ i, i < n → f i < m
  inj : ∀ i j, i < n → j < n → f i = f j → i = j
  above : ∀ i, i < n → a' (f i) = f (a i)
  below : ∀ i, i < n → b' (f i) = f (b i)
end Rl

set_option linter.all false
namespace Rl
open Classical
/-! ## rows laid beneath one another -/
/-- the ties of x above y: x's bridges are 0 .. 2n - 1, y's stand 2n on -/
def GT (n : Nat) (x y : Nat → Nat) (p q : Nat) : Prop := (p < 2 * n ∧ q = x p) ∨ (∃ w, w < 2 * n ∧ p = 2 * n + w ∧ q = 2 * n + y w) ∨ (∃ k, k < n ∧ p = 2 * n - 1 - k ∧ q = 2 * n + k)
/-- the outer ends -/
def out (n k : Nat) : Nat := if k < n then k else k + 2 * n
structure Comp (n : Nat) (x y c : Nat → Nat) : Prop where
  pr : Pairs (2 * n) c
  con : ∀ k, k < 2 * n → Conn (GT n x y) (out n k) (out n (c k))
  uni : ∀ k j, k < 2 * n → j < 2 * n → Conn (GT n x y) (out n k) (out n j) → j = k ∨ j = c k
/-- hangs with no outer end -/
def Ring (n : Nat) (x y : Nat → Nat) (p : Nat) : Prop := p < 4 * n ∧ ∀ k, k < 2 * n → ¬ Conn (GT n x y) p (out n k)
noncomputable def rgs (n : Nat) (x y : Nat → Nat) : Nat := cls (Conn (GT n x y)) ((List.range (4 * n)).filter fun p => decide (Ring n x y p))
section
variable {n : Nat} {x y c : Nat → Nat} {Ctx : Nat → Nat → Prop}
def Big (n : Nat) (x y : Nat → Nat) (Ctx : Nat → Nat → Prop) (p q : Nat) : Prop := GT n x y p q ∨ Ctx p q
def Small (n : Nat) (c : Nat → Nat) (Ctx : Nat → Nat → Prop) (u v : Nat) : Prop := (u < 2 * n ∧ v = c u) ∨ Ctx (out n u) (out n v)
noncomputable def pick (n : Nat) (x y : Nat → Nat) (p : Nat) : Nat := if 4 * n ≤ p then p - 2 * n else if h : ∃ k, k < 2 * n ∧ Conn (GT n x y) p (out n k) then h.choose else 0
end
end Rl

set_option linter.all false
namespace Rl
open Classical
/-! ## told over -/
section
variable {α β : Type} {B : α → α → Prop} {S : β → β → Prop}
end
/-! ## three rows -/
/-- z beneath: its bridges stand 4n on -/
def CtxL (n : Nat) (z : Nat → Nat) (p q : Nat) : Prop := (∃ w, w < 2 * n ∧ p = 4 * n + w ∧ q = 4 * n + z w) ∨ (∃ k, k < n ∧ p = 4 * n - 1 - k ∧ q = 4 * n + k)
/-- x above: its bridges stand 4n on too -/
def CtxR (n : Nat) (x : Nat → Nat) (p q : Nat) : Prop := (∃ w, w < 2 * n ∧ p = 4 * n + w ∧ q = 4 * n + x w) ∨ (∃ k, k < n ∧ p = 4 * n + (2 * n - 1 - k) ∧ q = k)
/-- the halves changed about -/
def swp (n u : Nat) : Nat := if u < 2 * n then u + 2 * n else if u < 4 * n then u - 2 * n else u
/-- from x, y, z to y, z, x -/
def rol (n p : Nat) : Nat := if p < 2 * n then p + 4 * n else if p < 6 * n then p - 2 * n else p
def ror (n p : Nat) : Nat := if p < 4 * n then p + 2 * n else if p < 6 * n then p - 4 * n else p
section
variable {n : Nat} {x y z c12 c23 d e : Nat → Nat}
end
end Rl

set_option linter.all false
namespace Rl
open Classical
/-! ## closed round, and the straight ones -/
def st (n : Nat) : Nat → Nat := fun k => 2 * n - 1 - k
noncomputable def closedN (n : Nat) (c : Nat → Nat) : Nat := many (2 * n) c (st n)
def CtxC (n : Nat) (p q : Nat) : Prop := ∃ k, k < n ∧ p = k ∧ q = 4 * n - 1 - k
section
variable {n : Nat} {x y c : Nat → Nat}
end
/-! ## how many rings at least, at most -/
end Rl

set_option linter.all false
namespace Rl
open Classical
/-! ## walking from a point: a, then b, and so on -/
structure Invo (n : Nat) (b : Nat → Nat) : Prop where
  lt : ∀ i, i < n → b i < n
  back : ∀ i, i < n → b (b i) = i
theorem Pairs.invo {n : Nat} {b : Nat → Nat} (B : Pairs n b) : Invo n b := ⟨B.lt, B.back⟩
def itr (a b : Nat → Nat) (f : Nat) : Nat → Nat
  | 0 => f
  | i + 1 => b (a (itr a b f i))
def wayL (a b : Nat → Nat) (f : Nat) : Nat → List Nat
  | 0 => []
  | k + 1 => wayL a b f k ++ [itr a b f k, a (itr a b f k)]
section
variable {n : Nat} {a b : Nat → Nat}
theorem itr_add (f i j : Nat) : itr a b f (i + j) = itr a b (itr a b f i) j := by
  induction j with
  | zero => rfl
  | succ j ih => show b (a (itr a b f (i + j))) = _; rw [ih]; rfl
theorem itr_lt (A : Pairs n a) (B : Invo n b) {f : Nat} (hf : f < n) (i : Nat) : itr a b f i < n := by
  induction i with
  | zero => exact hf
  | succ i ih => exact B.lt _ (A.lt _ ih)
theorem mem_wayL {f k x : Nat} : x ∈ wayL a b f k ↔ ∃ i, i < k ∧ (x = itr a b f i ∨ x = a (itr a b f i)) := by
  induction k with
  | zero => simp [wayL]
  | succ k ih =>
    rw [wayL, List.mem_append, ih]
    constructor
    · rintro (⟨i, hi, h⟩ | h)
      · exact ⟨i, by omega, h⟩
      · refine ⟨k, by omega, ?_⟩
        simpa using h
    · rintro ⟨i, hi, h⟩
      by_cases c : i = k
      · right; subst c; simpa using h
      · left; exact ⟨i, by omega, h⟩
theorem wayL_length (f k : Nat) : (wayL a b f k).length = 2 * k := by
  induction k with
  | zero => rfl
  | succ k ih => rw [wayL, List.length_append, ih]; simp; omega
theorem step_inj (A : Pairs n a) (B : Invo n b) {x y : Nat} (hx : x < n) (hy : y < n) (h : b (a x) = b (a y)) : x = y := by
  have h2 := congrArg b h
  rw [B.back _ (A.lt _ hx), B.back _ (A.lt _ hy)] at h2
  have h3 := congrArg a h2
  rwa [A.back _ hx, A.back _ hy] at h3
theorem itr_cancel (A : Pairs n a) (B : Invo n b) {f : Nat} (hf : f < n) : ∀ {i j : Nat}, itr a b f i = itr a b f (i + j) → f = itr a b f j
  | 0, j, h => by rw [Nat.zero_add] at h; exact h
  | i + 1, j, h => by
    rw [show i + 1 + j = (i + j) + 1 by omega] at h
    exact itr_cancel A B hf (i := i) (step_inj A B (itr_lt A B hf i) (itr_lt A B hf (i + j)) h)
/-- it comes back -/
theorem itr_back (A : Pairs n a) (B : Invo n b) {f : Nat} (hf : f < n) : ∃ p, p < n ∧ itr a b f (p + 1) = f := by
  apply byContradiction
  intro no
  have key : ∀ i j, i < j → j ≤ n → itr a b f i ≠ itr a b f j := fun i j hij hj e => by
    rw [show j = i + (j - i) by omega] at e
    have q := itr_cancel A B hf e
    exact no ⟨j - i - 1, by omega, by rw [show j - i - 1 + 1 = j - i by omega]; exact q.symm⟩
  have := length_le_rel (l := List.range (n + 1)) (m := List.range n) (C := fun i c => c = itr a b f i) (by
    refine (List.Pairwise.and_mem.mp List.pairwise_lt_range).imp ?_
    rintro i j ⟨hi, hj, hij⟩ c h1 h2
    rw [List.mem_range] at hj
    exact key i j hij (by omega) (h1.symm.trans h2)) (fun i _ => ⟨_, List.mem_range.mpr (itr_lt A B hf i), rfl⟩)
  simp at this
  omega
theorem least {P : Nat → Prop} : ∀ {k : Nat}, P k → ∃ m, m ≤ k ∧ P m ∧ ∀ i, i < m → ¬ P i := by
  intro k
  induction k using Nat.strongRecOn with
  | ind k ih =>
    intro h
    by_cases c : ∃ j, j < k ∧ P j
    · obtain ⟨j, hj, hp⟩ := c
      obtain ⟨m, h1, h2⟩ := ih j hj hp
      exact ⟨m, by omega, h2⟩
    · exact ⟨k, Nat.le_refl _, h, fun i hi hp => c ⟨i, hi, hp⟩⟩
/-- the walk from f ends behind m steps: at a fixed point of b, or at f again -/
structure Stops (a b : Nat → Nat) (f m : Nat) : Prop where
  stop : b (a (itr a b f m)) = a (itr a b f m) ∨ b (a (itr a b f m)) = f
  go : ∀ i, i < m → b (a (itr a b f i)) ≠ a (itr a b f i) ∧ b (a (itr a b f i)) ≠ f
theorem stops (A : Pairs n a) (B : Invo n b) {f : Nat} (hf : f < n) : ∃ m, m < n ∧ Stops a b f m := by
  obtain ⟨p, hp, e⟩ := itr_back A B hf
  obtain ⟨m, h1, h2, h3⟩ := least (P := fun m => b (a (itr a b f m)) = a (itr a b f m) ∨ b (a (itr a b f m)) = f) (k := p) (.inr e)
  exact ⟨m, by omega, h2, fun i hi => ⟨fun z => h3 i hi (.inl z), fun z => h3 i hi (.inr z)⟩⟩
theorem Stops.uniq {f m m' : Nat} (h : Stops a b f m) (h' : Stops a b f m') : m = m' := by
  rcases Nat.lt_trichotomy m m' with z | z | z
  · rcases h.stop with q | q
    · exact absurd q (h'.go m z).1
    · exact absurd q (h'.go m z).2
  · exact z
  · rcases h'.stop with q | q
    · exact absurd q (h.go m' z).1
    · exact absurd q (h.go m' z).2
noncomputable def stopAt (a b : Nat → Nat) (f : Nat) : Nat := if h : ∃ m, Stops a b f m then h.choose else 0
noncomputable def way (a b : Nat → Nat) (f : Nat) : List Nat := wayL a b f (stopAt a b f + 1)
theorem stopAt_spec (A : Pairs n a) (B : Invo n b) {f : Nat} (hf : f < n) : Stops a b f (stopAt a b f) := by
  obtain ⟨m, _, h⟩ := stops A B hf
  have e : ∃ m, Stops a b f m := ⟨m, h⟩
  unfold stopAt
  rw [dif_pos e]
  exact e.choose_spec
theorem stopAt_lt (A : Pairs n a) (B : Invo n b) {f : Nat} (hf : f < n) : stopAt a b f < n := by
  obtain ⟨m, hm, h⟩ := stops A B hf
  rw [(stopAt_spec A B hf).uniq h]
  exact hm
/-- no point of the walk leads by a to a point of the walk's even places -/
theorem noself (A : Pairs n a) (B : Invo n b) : ∀ (k : Nat) (f : Nat), f < n → (∀ i, i < k → b (a (itr a b f i)) ≠ a (itr a b f i)) → a f ≠ itr a b f k
  | 0, f, hf, _ => A.ne f hf
  | 1, f, hf, h => fun e => h 0 (by omega) e.symm
  | k + 2, f, hf, h => fun e => by
    have hg : b (a f) < n := B.lt _ (A.lt _ hf)
    have sh : ∀ i, itr a b f (i + 1) = itr a b (b (a f)) i := fun i => by rw [show i + 1 = 1 + i by omega, itr_add]; rfl
    refine noself A B k (b (a f)) hg (fun i hi => ?_) ?_
    · rw [← sh]; exact h (i + 1) (by omega)
    · have e1 : itr a b f (k + 2) = b (a (itr a b f (k + 1))) := rfl
      rw [e1] at e
      have e2 := congrArg b e
      rw [B.back _ (A.lt _ (itr_lt A B hf _))] at e2
      rw [← sh, e2]
      exact A.back _ (itr_lt A B hf _)
/-- the walk's points are the heap of f -/
theorem mem_way (A : Pairs n a) (B : Invo n b) {f : Nat} (hf : f < n) (h : b f = f ∨ ∀ i, b (a (itr a b f i)) ≠ a (itr a b f i)) {x : Nat} : x ∈ way a b f ↔ Conn (Ties n a b) f x := by
  have S := stopAt_spec A B hf
  unfold way
  constructor
  · intro hx
    obtain ⟨i, _, e⟩ := mem_wayL.mp hx
    have c : ∀ i, Conn (Ties n a b) f (itr a b f i) := fun i => by
      induction i with
      | zero => exact .refl _
      | succ i ih => exact (ih.trans (.one ⟨itr_lt A B hf i, .inl rfl⟩)).trans (.one ⟨A.lt _ (itr_lt A B hf i), .inr rfl⟩)
    rcases e with e | e
    · rw [e]; exact c i
    · rw [e]; exact (c i).trans (.one ⟨itr_lt A B hf i, .inl rfl⟩)
  · intro c
    have cl : ∀ y, y ∈ wayL a b f (stopAt a b f + 1) → a y ∈ wayL a b f (stopAt a b f + 1) ∧ b y ∈ wayL a b f (stopAt a b f + 1) := fun y hy => by
      obtain ⟨i, hi, e⟩ := mem_wayL.mp hy
      have hl := itr_lt A B hf i
      rcases e with e | e
      · subst e
        refine ⟨mem_wayL.mpr ⟨i, hi, .inr rfl⟩, ?_⟩
        cases i with
        | zero =>
          rcases h with h | h
          · refine mem_wayL.mpr ⟨0, by omega, .inl ?_⟩
            exact h
          · rcases S.stop with q | q
            · exact absurd q (h _)
            · refine mem_wayL.mpr ⟨stopAt a b f, by omega, .inr ?_⟩
              show b f = _
              rw [← q, B.back _ (A.lt _ (itr_lt A B hf _))]
              rw [q]
        | succ i =>
          refine mem_wayL.mpr ⟨i, by omega, .inr ?_⟩
          show b (b (a (itr a b f i))) = _
          rw [B.back _ (A.lt _ (itr_lt A B hf i))]
      · subst e
        refine ⟨mem_wayL.mpr ⟨i, hi, .inl (A.back _ hl)⟩, ?_⟩
        by_cases c : i = stopAt a b f
        · subst c
          rcases S.stop with q | q
          · exact mem_wayL.mpr ⟨_, hi, .inr q⟩
          · exact mem_wayL.mpr ⟨0, by omega, .inl q⟩
        · exact mem_wayL.mpr ⟨i + 1, by omega, .inl rfl⟩
    have all : ∀ {x y : Nat}, Conn (Ties n a b) x y → x ∈ wayL a b f (stopAt a b f + 1) → y ∈ wayL a b f (stopAt a b f + 1) := by
      intro x y c hx
      induction c with
      | refl => exact hx
      | @step u v _ t ih =>
        rcases t with ⟨_, t | t⟩ | ⟨hv, t | t⟩
        · rw [t]; exact (cl u ih).1
        · rw [t]; exact (cl u ih).2
        · have := (cl u ih).1; rw [t, A.back v hv] at this; exact this
        · have := (cl u ih).2; rw [t, B.back v hv] at this; exact this
    exact all c (mem_wayL.mpr ⟨0, by omega, .inl rfl⟩)
end
/-! ## going through all points, a walk from each that was not met -/
noncomputable def scan (w : Nat → List Nat) (k0 : List Nat) : Nat → List Nat
  | 0 => []
  | i + 1 => if i ∈ k0 ++ ((scan w k0 i).map w).flatten then scan w k0 i else scan w k0 i ++ [i]
section
variable {w : Nat → List Nat} {k0 : List Nat}
theorem scan_lt {i x : Nat} (h : x ∈ scan w k0 i) : x < i := by
  induction i with
  | zero => simp [scan] at h
  | succ i ih =>
    unfold scan at h
    split at h
    · have := ih h; omega
    · rcases List.mem_append.mp h with z | z
      · have := ih z; omega
      · simp at z; omega
theorem scan_mono {i : Nat} {x : Nat} (h : x ∈ scan w k0 i) : x ∈ scan w k0 (i + 1) := by
  unfold scan
  split
  · exact h
  · exact List.mem_append_left _ h
/-- each one that was looked at is met -/
theorem scan_met (hw : ∀ i, i ∈ w i) : ∀ {i j : Nat}, j < i → j ∈ k0 ++ ((scan w k0 i).map w).flatten
  | i + 1, j, h => by
    by_cases c : j = i
    · subst c
      unfold scan
      split
      · assumption
      · refine List.mem_append_right _ (List.mem_flatten.mpr ⟨w j, List.mem_map.mpr ⟨j, by simp, rfl⟩, hw j⟩)
    · have := scan_met hw (i := i) (j := j) (by omega)
      rcases List.mem_append.mp this with z | z
      · exact List.mem_append_left _ z
      · refine List.mem_append_right _ ?_
        obtain ⟨l, hl, hj⟩ := List.mem_flatten.mp z
        obtain ⟨r, hr, rfl⟩ := List.mem_map.mp hl
        exact List.mem_flatten.mpr ⟨w r, List.mem_map.mpr ⟨r, scan_mono hr, rfl⟩, hj⟩
theorem scan_apart : ∀ (i : Nat), (scan w k0 i).Pairwise fun r r' => r' ∉ w r
  | 0 => by simp [scan]
  | i + 1 => by
    unfold scan
    split
    · exact scan_apart i
    · rename_i h
      refine List.pairwise_append.mpr ⟨scan_apart i, by simp, fun r hr r' hr' => ?_⟩
      simp at hr'
      subst hr'
      exact fun z => h (List.mem_append_right _ (List.mem_flatten.mpr ⟨w r, List.mem_map.mpr ⟨r, hr, rfl⟩, z⟩))
/-- nothing new till k -/
theorem scan_stay {i : Nat} : ∀ {k : Nat}, i ≤ k → (∀ j, i ≤ j → j < k → j ∈ k0 ++ ((scan w k0 i).map w).flatten) → scan w k0 k = scan w k0 i
  | 0, h, _ => by rw [show i = 0 by omega]
  | k + 1, h, hm => by
    by_cases c : i = k + 1
    · rw [c]
    · have e := scan_stay (i := i) (k := k) (by omega) fun j h1 h2 => hm j h1 (by omega)
      have h1 : scan w k0 (k + 1) = if k ∈ k0 ++ ((scan w k0 k).map w).flatten then scan w k0 k else scan w k0 k ++ [k] := rfl
      rw [h1, e, if_pos (hm k (by omega) (by omega))]
end
theorem way_self {a b : Nat → Nat} (f : Nat) : f ∈ way a b f := mem_wayL.mpr ⟨0, by omega, .inl rfl⟩
/-- as many walks as roads -/
theorem scan_many {n : Nat} {a b : Nat → Nat} (A : Pairs n a) (B : Pairs n b) : (scan (way a b) [] n).length = many n a b := by
  have nofix : ∀ f, f < n → ∀ i, b (a (itr a b f i)) ≠ a (itr a b f i) := fun f hf i => B.ne _ (A.lt _ (itr_lt A B.invo hf i))
  unfold many
  refine (cls_reps Conn.eqv ?_ (fun x hx => List.mem_range.mpr (scan_lt hx)) fun x hx => ?_).symm
  · refine (List.Pairwise.and_mem.mp (scan_apart n)).imp ?_
    rintro r r' ⟨hr, _, h⟩ c
    exact h ((mem_way A B.invo (scan_lt hr) (.inr (nofix r (scan_lt hr)))).mpr c)
  · have := scan_met (w := way a b) (k0 := []) way_self (List.mem_range.mp hx)
    rw [List.nil_append] at this
    obtain ⟨l, hl, hj⟩ := List.mem_flatten.mp this
    obtain ⟨r, hr, rfl⟩ := List.mem_map.mp hl
    exact ⟨r, hr, ((mem_way A B.invo (scan_lt hr) (.inr (nofix r (scan_lt hr)))).mp hj).symm⟩
end Rl

set_option linter.all false
namespace Rl
open Classical
/-! ## the bridges that are left -/
def leftL (n : Nat) (met : List Nat) : List Nat := (List.range n).filter fun x => !met.contains x
theorem mem_left {n : Nat} {met : List Nat} {x : Nat} : x ∈ leftL n met ↔ x < n ∧ x ∉ met := by simp [leftL]
theorem left_nodup (n : Nat) (met : List Nat) : (leftL n met).Nodup := List.Pairwise.filter _ List.nodup_range
theorem left_erase {n : Nat} {met : List Nat} {x : Nat} : (leftL n met).erase x = leftL n (met ++ [x]) := by
  rw [(left_nodup n met).erase_eq_filter]
  unfold leftL
  rw [List.filter_filter]
  refine List.filter_congr fun y _ => ?_
  by_cases c : y = x
  · subst c; simp
  · by_cases d : y ∈ met
    · simp [d]
    · simp [d, c]
theorem left_all (n : Nat) : leftL n [] = List.range n := by simp [leftL]
theorem sorted_head : ∀ {l : List Nat} {f : Nat} {r : List Nat}, l.Pairwise (· < ·) → l = f :: r → ∀ g, g ∈ l → f ≤ g := by
  rintro l f r h rfl g hg
  rcases List.mem_cons.mp hg with z | z
  · omega
  · exact Nat.le_of_lt ((List.pairwise_cons.mp h).1 g z)
theorem left_head {n : Nat} {met : List Nat} {f : Nat} {r : List Nat} (h : leftL n met = f :: r) : f < n ∧ f ∉ met ∧ ∀ g, g < f → g ∈ met := by
  have hf : f ∈ leftL n met := by rw [h]; exact List.mem_cons_self
  obtain ⟨h1, h2⟩ := mem_left.mp hf
  refine ⟨h1, h2, fun g hg => ?_⟩
  apply Decidable.byContradiction
  intro c
  have := sorted_head (show (leftL n met).Pairwise (· < ·) from List.Pairwise.filter _ List.pairwise_lt_range) h g (mem_left.mpr ⟨by omega, c⟩)
  omega
theorem left_none {n : Nat} {met : List Nat} (h : leftL n met = []) : ∀ g, g < n → g ∈ met := fun g hg => by
  apply Decidable.byContradiction
  intro c
  have := mem_left.mpr ⟨hg, c⟩
  rw [h] at this
  cases this
section
variable {n : Nat} {a b : Nat → Nat}
/-- the points met by walks -/
noncomputable def metL (a b : Nat → Nat) (i : Nat) : List Nat := ((scan (way a b) [] i).map (way a b)).flatten
theorem metL_cover {i j : Nat} (h : j < i) : j ∈ metL a b i := by
  have := scan_met (w := way a b) (k0 := []) way_self h
  rwa [List.nil_append] at this
/-- the next walk goes from the least that is left -/
theorem scan_next {i f : Nat} (h2 : f ∉ metL a b i) (h3 : ∀ g, g < f → g ∈ metL a b i) : i ≤ f ∧ scan (way a b) [] (f + 1) = scan (way a b) [] i ++ [f] := by
  have hi : i ≤ f := Decidable.byContradiction fun c => h2 (metL_cover (by omega))
  refine ⟨hi, ?_⟩
  have e := scan_stay (w := way a b) (k0 := []) hi fun j _ hj => by rw [List.nil_append]; exact h3 j hj
  have h1 : scan (way a b) [] (f + 1) = if f ∈ [] ++ ((scan (way a b) [] f).map (way a b)).flatten then scan (way a b) [] f else scan (way a b) [] f ++ [f] := rfl
  rw [h1, e, if_neg]
  rw [List.nil_append]
  exact h2
theorem scan_last {i : Nat} (hi : i ≤ n) (h : ∀ g, g < n → g ∈ metL a b i) : scan (way a b) [] n = scan (way a b) [] i :=
  scan_stay hi fun j _ hj => by rw [List.nil_append]; exact h j hj
theorem metL_next {f : Nat} {i : Nat} (h : scan (way a b) [] (f + 1) = scan (way a b) [] i ++ [f]) : metL a b (f + 1) = metL a b i ++ way a b f := by
  unfold metL
  rw [h, List.map_append, List.flatten_append]
  simp
/-- a walk from a bridge that is left meets none that was met -/
theorem fresh_way (A : Pairs n a) (B : Pairs n b) {i f : Nat} (hi : i ≤ n) (hf : f < n) (h2 : f ∉ metL a b i) {x : Nat} (hx : x ∈ way a b f) : x ∉ metL a b i := by
  have nofix : ∀ f, f < n → ∀ i, b (a (itr a b f i)) ≠ a (itr a b f i) := fun f hf i => B.ne _ (A.lt _ (itr_lt A B.invo hf i))
  intro hm
  obtain ⟨l, hl, hj⟩ := List.mem_flatten.mp hm
  obtain ⟨r, hr, rfl⟩ := List.mem_map.mp hl
  have hr' : r < n := Nat.lt_of_lt_of_le (scan_lt hr) hi
  have c1 := (mem_way A B.invo hf (.inr (nofix f hf))).mp hx
  have c2 := (mem_way A B.invo hr' (.inr (nofix r hr'))).mp hj
  exact h2 (List.mem_flatten.mpr ⟨_, List.mem_map.mpr ⟨r, hr, rfl⟩, (mem_way A B.invo hr' (.inr (nofix r hr'))).mpr (c2.trans c1.symm)⟩)
/-- each step of a walk is new -/
theorem step_new (A : Pairs n a) (B : Pairs n b) {f j : Nat} (hf : f < n) (hj : j ≤ stopAt a b f) : itr a b f j ∉ wayL a b f j ∧ a (itr a b f j) ∉ wayL a b f j := by
  have S := stopAt_spec A B.invo hf
  have nofix : ∀ f, f < n → ∀ i, b (a (itr a b f i)) ≠ a (itr a b f i) := fun f hf i => B.ne _ (A.lt _ (itr_lt A B.invo hf i))
  have lt := itr_lt A B.invo hf
  have ne1 : ∀ i, i < j → itr a b f j ≠ itr a b f i := fun i hi e => by
    rw [show j = i + (j - i) by omega] at e
    have q := itr_cancel A B.invo hf e.symm
    refine (S.go (j - i - 1) (by omega)).2 ?_
    show itr a b f (j - i - 1 + 1) = f
    rw [show j - i - 1 + 1 = j - i by omega]
    exact q.symm
  have ne2 : ∀ i k, i ≤ k → a (itr a b f i) ≠ itr a b f k := fun i k hik e => by
    rw [show k = i + (k - i) by omega, itr_add] at e
    exact noself A B.invo (k - i) _ (lt i) (fun q _ => nofix _ (lt i) q) e
  constructor
  · intro h
    obtain ⟨i, hi, e | e⟩ := mem_wayL.mp h
    · exact ne1 i hi e
    · exact ne2 i j (by omega) e.symm
  · intro h
    obtain ⟨i, hi, e | e⟩ := mem_wayL.mp h
    · have := congrArg a e
      rw [A.back _ (lt j)] at this
      exact ne2 i j (by omega) this.symm
    · have := congrArg a e
      rw [A.back _ (lt j), A.back _ (lt i)] at this
      exact ne1 i hi this
theorem last_step (A : Pairs n a) (B : Pairs n b) {f : Nat} (hf : f < n) : b (a (itr a b f (stopAt a b f))) = f := by
  rcases (stopAt_spec A B.invo hf).stop with q | q
  · exact absurd q (B.ne _ (A.lt _ (itr_lt A B.invo hf _)))
  · exact q
theorem next_step (A : Pairs n a) (B : Pairs n b) {f j : Nat} (hf : f < n) (hj : j < stopAt a b f) : b (a (itr a b f j)) ≠ f := ((stopAt_spec A B.invo hf).go j hj).2
theorem itr_way {f j : Nat} (hj : j ≤ stopAt a b f) : itr a b f j ∈ way a b f ∧ a (itr a b f j) ∈ way a b f := ⟨mem_wayL.mpr ⟨j, by omega, .inl rfl⟩, mem_wayL.mpr ⟨j, by omega, .inr rfl⟩⟩
end
end Rl

set_option Elab.async false
set_option linter.all false
set_option maxRecDepth 100000
namespace Rl
open PySem L2
/-! ## lists of bridges as values -/
def ni (l : List Nat) : List Int := l.map fun j : Nat => (j : Int)
theorem ni_length (l : List Nat) : (ni l).length = l.length := List.length_map _
theorem ni_len (l : List Nat) : ((ni l).map V.int).length = l.length := by rw [List.length_map, ni_length]
theorem ni_append (l m : List Nat) : ni (l ++ m) = ni l ++ ni m := List.map_append
theorem nv_append (l m : List Nat) : (ni (l ++ m)).map V.int = (ni l).map V.int ++ (ni m).map V.int := by rw [ni_append, List.map_append]
theorem ni_erase (l : List Nat) (x : Nat) : (ni l).erase (x : Int) = ni (l.erase x) := by
  unfold ni
  induction l with
  | nil => rfl
  | cons y r ih =>
    rw [List.map_cons, List.erase_cons, List.erase_cons]
    by_cases c : y = x
    · subst c; simp
    · have c2 : ¬ ((y : Int) == (x : Int)) = true := by simp; omega
      have c3 : ¬ (y == x) = true := by simpa using c
      rw [if_neg c2, if_neg c3, List.map_cons, ih]
theorem mem_ni {l : List Nat} {x : Nat} : (x : Int) ∈ ni l ↔ x ∈ l := by
  unfold ni
  rw [List.mem_map]
  constructor
  · rintro ⟨y, hy, e⟩
    have : y = x := by omega
    exact this ▸ hy
  · intro h; exact ⟨x, h, rfl⟩
theorem ni_tab (n : Nat) (f : Nat → Nat) : tab n f = ni ((List.range n).map f) := by unfold tab ni; rw [List.map_map]; rfl
theorem flat_ints (l : List Int) : (l.map V.int).all flatV = true := by
  rw [List.all_eq_true]
  intro x hx
  obtain ⟨i, _, rfl⟩ := List.mem_map.mp hx
  rfl
theorem inV_ints (l : List Int) (x : Int) : inV (.int x) (l.map V.int) = decide (x ∈ l) := by
  unfold inV
  induction l with
  | nil => rfl
  | cons y r ih =>
    rw [List.map_cons, List.any_cons, ih]
    show (y == x || _) = _
    by_cases c : y = x
    · subst c; simp
    · simp [c, Ne.symm c]
theorem inV_ni (l : List Nat) (x : Nat) : inV (.int (x : Int)) ((ni l).map V.int) = decide (x ∈ l) := by
  rw [inV_ints]
  exact decide_eq_decide.mpr mem_ni
theorem ne_yes {x y : Int} (h : (!decide (V.int x = V.int y)) = true) : x ≠ y := fun z => by rw [z] at h; simp at h
theorem ne_no {x y : Int} (h : ¬ (!decide (V.int x = V.int y)) = true) : x = y := by
  by_cases z : x = y
  · exact z
  · exfalso; apply h; simp [z]
theorem eq_yes {x y : Int} (h : decide (V.int x = V.int y) = true) : x = y := V.int.inj (of_decide_eq_true h)
theorem eq_no {x y : Int} (h : ¬ decide (V.int x = V.int y) = true) : x ≠ y := fun z => h (decide_eq_true (congrArg V.int z))
/-- rows of bridges that were made: r holds them -/
structure RowsAt (H H' : Hp) (as : List Addr) (ws : List (List Nat)) : Prop where
  len : as.length = ws.length
  row : ∀ (i : Nat) (x : Addr) (w : List Nat), as[i]? = some x → ws[i]? = some w → H' x = some (.lst ((ni w).map V.int))
  new : ∀ x, x ∈ as → H x = none
  nd : as.Nodup
theorem RowsAt.nil (H H' : Hp) : RowsAt H H' [] [] := ⟨rfl, fun i x w h => by simp at h, fun x h => by simp at h, List.nodup_nil⟩
theorem RowsAt.same {H H' H2 : Hp} {as : List Addr} {ws : List (List Nat)} (R : RowsAt H H' as ws) (S : Same H' H2) : RowsAt H H2 as ws :=
  ⟨R.len, fun i x w h1 h2 => S _ _ (R.row i x w h1 h2), R.new, R.nd⟩
theorem RowsAt.upd {H H' : Hp} {as : List Addr} {ws : List (List Nat)} {l : Addr} {o : HO} (R : RowsAt H H' as ws) (h : l ∉ as) : RowsAt H (upd H' l o) as ws :=
  ⟨R.len, fun i x w h1 h2 => by rw [upd_ne (show x ≠ l from fun z => h (by rw [← z]; exact List.mem_of_getElem? h1))]; exact R.row i x w h1 h2, R.new, R.nd⟩
theorem RowsAt.at {H H' : Hp} {as : List Addr} {ws : List (List Nat)} (R : RowsAt H H' as ws) {i : Nat} {x : Addr} (h : as[i]? = some x) : ∃ w, ws[i]? = some w ∧ H' x = some (.lst ((ni w).map V.int)) := by
  have hi := (List.getElem?_eq_some_iff.mp h).1
  have : i < ws.length := by rw [← R.len]; exact hi
  exact ⟨ws[i], List.getElem?_eq_getElem this, R.row i x _ h (List.getElem?_eq_getElem this)⟩
/-- one row more -/
theorem RowsAt.push {H H' : Hp} {as : List Addr} {ws : List (List Nat)} {x : Addr} {w : List Nat} (R : RowsAt H H' as ws) (hx : H' x = some (.lst ((ni w).map V.int))) (hn : H x = none) (nm : x ∉ as) : RowsAt H H' (as ++ [x]) (ws ++ [w]) := by
  refine ⟨by rw [List.length_append, List.length_append, R.len]; rfl, fun i y v h1 h2 => ?_, fun y hy => ?_, ?_⟩
  · by_cases c : i < as.length
    · rw [List.getElem?_append_left c] at h1
      rw [List.getElem?_append_left (by rw [← R.len]; exact c)] at h2
      exact R.row i y v h1 h2
    · rw [List.getElem?_append_right (by omega)] at h1
      rw [List.getElem?_append_right (by rw [← R.len]; omega), ← R.len] at h2
      have c0 : i - as.length = 0 := by
        have := (List.getElem?_eq_some_iff.mp h1).1
        simp at this
        omega
      rw [c0] at h1 h2
      cases h1
      cases h2
      exact hx
  · rcases List.mem_append.mp hy with z | z
    · exact R.new y z
    · simp at z; rw [z]; exact hn
  · refine List.nodup_append.mpr ⟨R.nd, by simp, fun y hy z hz e => ?_⟩
    simp at hz
    subst hz
    exact nm (e ▸ hy)
theorem RowsAt.apart2 {H H' H2 : Hp} {as : List Addr} {ws : List (List Nat)} {l : Addr} (R : RowsAt H H' as ws) (S : Same H' H2) (h : H' l = none) : l ∉ as := fun z => by
  obtain ⟨i, hi⟩ := List.getElem?_of_mem z
  obtain ⟨w, _, e⟩ := R.at hi
  rw [h] at e
  cases e
/-! ## a list comprehension with a test, the heap growing only -/
theorem comp_if {J : It} {g : TG} {tf : TT} {te : TE} {p : Addr} {H : Hp} {σ0 : St} {Fin : Hp → Prop} (n : Nat) (P : Nat → Bool) (items : Nat → V) (Sg : St → Prop) (hn : n ≤ sizeLine) (h0 : Sg σ0) (hp : H p = none)
    (hJ : ∀ i H', i < n → Same H H' → J.go i H') (hE : ∀ H', Same H H' → J.stop n H')
    (ht : ∀ i x σ' H' H2 (kT : St → V → Hp → Prop) (kF : St → Hp → Prop), i < n → Sg σ' → Same H H' → J.yld i H' x H2 → (P i = true → ∀ σ3 y H4, Sg σ3 → y = items i → Same H' H4 → kT σ3 y H4) → (P i = false → ∀ σ3 H4, Sg σ3 → Same H' H4 → kF σ3 H4) →
      g x σ' H2 fun σ2 H2 => tf σ2 H2 fun b H3 => if b = true then te σ2 H3 fun y H4 => kT σ2 y H4 else kF σ2 H3)
    (fin : ∀ H', Same H H' → H' p = some (.lst (((List.range n).filter P).map items)) → Fin H') :
    ∃ W : Nat → Nat → List V → St → Hp → Prop, (∃ m, W 0 m [] σ0 (upd H p (.lst []))) ∧ CompW J g tf te p W Fin := by
  refine ⟨fun i m ys σ' H' => m = n - i ∧ i ≤ n ∧ ys = ((List.range i).filter P).map items ∧ Sg σ' ∧ Same H H' ∧ H' p = some (.lst ys), ⟨n, by simp, Nat.zero_le _, by simp, h0, same_upd_new hp _, upd_same⟩, ?_⟩
  rintro i m ys σ' H' ⟨rfl, hi, rfl, hS, hH, hacc⟩
  refine ⟨hacc, ?_⟩
  by_cases hlt : i < n
  · refine .inr ⟨hJ i H' hlt hH, fun x H2 y => ?_⟩
    refine ht i x σ' H' H2 (fun σ2 y H4 => H4 p = some (.lst (((List.range i).filter P).map items)) ∧ (((List.range i).filter P).map items).length < sizeLine ∧ ∃ m', m' < n - i ∧ m' = n - (i + 1) ∧ i + 1 ≤ n ∧ ((List.range i).filter P).map items ++ [y] = ((List.range (i + 1)).filter P).map items ∧ Sg σ2 ∧ Same H (upd H4 p (.lst (((List.range i).filter P).map items ++ [y]))) ∧ upd H4 p (.lst (((List.range i).filter P).map items ++ [y])) p = some (.lst (((List.range i).filter P).map items ++ [y])))
      (fun σ2 H4 => ∃ m', m' < n - i ∧ m' = n - (i + 1) ∧ i + 1 ≤ n ∧ ((List.range i).filter P).map items = ((List.range (i + 1)).filter P).map items ∧ Sg σ2 ∧ Same H H4 ∧ H4 p = some (.lst (((List.range i).filter P).map items))) hlt hS hH y (fun hP σ3 y H4 s3 ey sm => ?_) (fun hP σ3 H4 s3 sm => ?_)
    · subst ey
      refine ⟨sm _ _ hacc, ?_, n - (i + 1), by omega, rfl, hlt, ?_, s3, (hH.trans sm).upd hp _, upd_same⟩
      · rw [List.length_map]
        have := List.length_filter_le P (List.range i)
        rw [List.length_range] at this
        omega
      · rw [List.range_succ, List.filter_append, List.map_append, List.filter_cons, hP]
        rfl
    · refine ⟨n - (i + 1), by omega, rfl, hlt, ?_, s3, hH.trans sm, sm _ _ hacc⟩
      rw [List.range_succ, List.filter_append, List.map_append, List.filter_cons, hP]
      simp
  · have e : i = n := by omega
    subst e
    exact .inl ⟨hE H' hH, fin H' hH hacc⟩
end Rl

set_option linter.all false
namespace Rl
open Classical
/-! ## how many ways a word can go on -/
def W : Nat → Nat → Nat
  | 0 => fun _ => 1
  | o + 1 => fun c => Nat.rec 0 (fun c r => if c < o then 0 else W o (c + 1) + r) c
theorem W_zero (c : Nat) : W 0 c = 1 := rfl
theorem W_step (o c : Nat) : W (o + 1) (c + 1) = if c < o then 0 else W o (c + 1) + W (o + 1) c := rfl
theorem W_low {o c : Nat} (h : c < o) : W o c = 0 := by
  cases o with
  | zero => omega
  | succ o =>
    cases c with
    | zero => rfl
    | succ c => rw [W_step, if_pos (by omega)]
def ah (o c : Nat) : Nat := if 0 < o then W (o - 1) c else 0
theorem W_split {o c : Nat} (h : o ≤ c) (h1 : 1 ≤ c) : W o c = ah o c + W o (c - 1) := by
  unfold ah
  cases o with
  | zero => simp [W_zero]
  | succ o =>
    cases c with
    | zero => omega
    | succ c =>
      rw [W_step, if_neg (by omega), if_pos (by omega)]
      rfl
/-- a word that can be written with so many ( and so many ) -/
def Okw : Nat → Nat → List Nat → Prop
  | o, c, [] => o = 0 ∧ c = 0
  | o, c, s :: w => (s = 40 ∧ 0 < o ∧ o ≤ c ∧ Okw (o - 1) c w) ∨ (s = 41 ∧ o < c ∧ Okw o (c - 1) w)
def rk : Nat → Nat → List Nat → Nat
  | _, _, [] => 0
  | o, c, s :: w => if s = 40 then rk (o - 1) c w else ah o c + rk o (c - 1) w
def un : Nat → Nat → Nat → Nat → List Nat
  | 0, _, _, _ => []
  | k + 1, o, c, r => if c = 0 then [] else if r < ah o c then 40 :: un k (o - 1) c r else 41 :: un k o (c - 1) (r - ah o c)
theorem Okw.length : ∀ {w : List Nat} {o c : Nat}, Okw o c w → w.length = o + c
  | [], o, c, h => by obtain ⟨h1, h2⟩ := h; subst h1 h2; rfl
  | s :: w, o, c, h => by
    rcases h with ⟨_, h1, h2, h⟩ | ⟨_, h1, h⟩
    · have := h.length; rw [List.length_cons]; omega
    · have := h.length; rw [List.length_cons]; omega
theorem Okw.sign : ∀ {w : List Nat} {o c : Nat}, Okw o c w → ∀ s, s ∈ w → s = 40 ∨ s = 41
  | [], _, _, _, s, hs => by cases hs
  | t :: w, o, c, h, s, hs => by
    rcases h with ⟨e, _, _, h⟩ | ⟨e, _, h⟩
    · rcases List.mem_cons.mp hs with z | z
      · left; rw [z, e]
      · exact h.sign s z
    · rcases List.mem_cons.mp hs with z | z
      · right; rw [z, e]
      · exact h.sign s z
theorem un_ok : ∀ {k o c r : Nat}, k = o + c → r < W o c → Okw o c (un k o c r) ∧ rk o c (un k o c r) = r
  | 0, o, c, r, e, h => by
    have h1 : o = 0 := by omega
    have h2 : c = 0 := by omega
    subst h1 h2
    rw [W_zero] at h
    exact ⟨⟨rfl, rfl⟩, by show 0 = r; omega⟩
  | k + 1, o, c, r, e, h => by
    have oc : o ≤ c := Decidable.byContradiction fun z => by rw [W_low (by omega)] at h; omega
    have c0 : 1 ≤ c := by omega
    have sp := W_split oc c0
    unfold un
    rw [if_neg (by omega)]
    by_cases d : r < ah o c
    · rw [if_pos d]
      have o0 : 0 < o := Decidable.byContradiction fun z => by unfold ah at d; rw [if_neg z] at d; omega
      have d2 : r < W (o - 1) c := by unfold ah at d; rw [if_pos o0] at d; exact d
      obtain ⟨i1, i2⟩ := un_ok (k := k) (o := o - 1) (c := c) (r := r) (by omega) d2
      refine ⟨.inl ⟨rfl, o0, oc, i1⟩, ?_⟩
      unfold rk
      rw [if_pos rfl]
      exact i2
    · rw [if_neg d]
      have d2 : r - ah o c < W o (c - 1) := by omega
      have oc2 : o ≤ c - 1 := Decidable.byContradiction fun z => by rw [W_low (by omega)] at d2; omega
      obtain ⟨i1, i2⟩ := un_ok (k := k) (o := o) (c := c - 1) (r := r - ah o c) (by omega) d2
      refine ⟨.inr ⟨rfl, by omega, i1⟩, ?_⟩
      unfold rk
      rw [if_neg (by decide), i2]
      omega
/-! ## words and arcs -/
theorem build : ∀ {w : List Nat} {o c k : Nat} {b : Nat → Bool} {f : Nat → Nat} {S : List Nat}, Run b k f S → Okw o c w → c = o + S.length →
    ∃ b' f', Run b' (k + w.length) f' [] ∧ (∀ i, i < k → b' i = b i) ∧ ∀ i s, w[i]? = some s → b' (k + i) = decide (s = 40)
  | [], o, c, k, b, f, S, R, h, e => by
    obtain ⟨h1, h2⟩ := h
    have : S = [] := List.length_eq_zero_iff.mp (by omega)
    subst this
    exact ⟨b, f, R, fun _ _ => rfl, fun i s hs => by simp at hs⟩
  | s :: w, o, c, k, b, f, S, R, h, e => by
    rcases h with ⟨es, h1, h2, h⟩ | ⟨es, h1, h⟩
    · obtain ⟨b', f', R', i1, i2⟩ := build R.pushB h (by rw [List.length_append]; simp; omega)
      refine ⟨b', f', by rw [List.length_cons, show k + (w.length + 1) = k + 1 + w.length by omega]; exact R', fun i hi => ?_, fun i t ht => ?_⟩
      · rw [i1 i (by omega)]; (try dsimp only); rw [if_neg (by omega)]
      · cases i with
        | zero =>
          cases ht
          rw [Nat.add_zero, i1 k (by omega)]
          (try dsimp only)
          rw [if_pos rfl, es]
          rfl
        | succ i => rw [show k + (i + 1) = k + 1 + i by omega]; exact i2 i t ht
    · obtain ⟨S', t, hS⟩ := ex_last (S := S) (by omega)
      subst hS
      obtain ⟨b', f', R', i1, i2⟩ := build R.popB h (by rw [List.length_append] at e; simp at e; omega)
      refine ⟨b', f', by rw [List.length_cons, show k + (w.length + 1) = k + 1 + w.length by omega]; exact R', fun i hi => ?_, fun i u hu => ?_⟩
      · rw [i1 i (by omega)]; (try dsimp only); rw [if_neg (by omega)]
      · cases i with
        | zero =>
          cases hu
          rw [Nat.add_zero, i1 k (by omega)]
          (try dsimp only)
          rw [if_pos rfl, es]
          rfl
        | succ i => rw [show k + (i + 1) = k + 1 + i by omega]; exact i2 i u hu
theorem word_arcs {m : Nat} {w : List Nat} (h : Okw m m w) : ∃ g, IsArcs (2 * m) g ∧ word (2 * m) g = w := by
  obtain ⟨b, f, R, _, hb⟩ := build (Run.start (fun _ => true) (fun _ => 0)) h rfl
  have hl := h.length
  rw [hl, Nat.zero_add, show m + m = 2 * m by omega] at R
  obtain ⟨A, d⟩ := R.done
  refine ⟨f, A, ?_⟩
  apply List.ext_getElem?
  intro i
  by_cases c : i < 2 * m
  · rw [word_get c]
    obtain ⟨s, hs⟩ : ∃ s, w[i]? = some s := ⟨_, List.getElem?_eq_getElem (by omega)⟩
    rw [hs]
    have := hb i s hs
    rw [Nat.zero_add] at this
    have di := d i c
    rcases h.sign s (List.mem_of_getElem? hs) with z | z
    · rw [z] at this
      rw [if_pos (di.mp (by rw [this]; rfl)), z]
    · rw [z] at this
      have : ¬ i < f i := fun y => by rw [di.mpr y] at this; exact absurd this (by decide)
      rw [if_neg this, z]
  · rw [List.getElem?_eq_none (by rw [word_length]; omega), List.getElem?_eq_none (by omega)]
theorem word_same {n : Nat} {g g' : Nat → Nat} (h : word n g = word n g') : ∀ k, k < n → (k < g k ↔ k < g' k) := fun k hk => by
  have := congrArg (fun l => l[k]?) h
  (try dsimp only at this)
  rw [word_get hk, word_get hk] at this
  have := Option.some.inj this
  by_cases c : k < g k
  · rw [if_pos c] at this
    by_cases d : k < g' k
    · exact ⟨fun _ => d, fun _ => c⟩
    · rw [if_neg d] at this; omega
  · rw [if_neg c] at this
    by_cases d : k < g' k
    · rw [if_pos d] at this; omega
    · exact ⟨fun z => absurd z c, fun z => absurd z d⟩
/-! ## all words in their order -/
def allW : Nat → Nat → Nat → List (List Nat)
  | 0, _, _ => [[]]
  | k + 1, o, c => (if 0 < o then (allW k (o - 1) c).map (40 :: ·) else []) ++ (if o < c then (allW k o (c - 1)).map (41 :: ·) else [])
theorem allW_eq : ∀ {k o c : Nat}, k = o + c → o ≤ c → allW k o c = (List.range (W o c)).map (un k o c)
  | 0, o, c, e, h => by
    have h1 : o = 0 := by omega
    subst h1
    rfl
  | k + 1, o, c, e, h => by
    have sp := W_split h (show 1 ≤ c by omega)
    unfold allW
    rw [sp, List.range_add, List.map_append]
    congr 1
    · by_cases o0 : 0 < o
      · rw [if_pos o0, allW_eq (by omega) (by omega), List.map_map]
        have : ah o c = W (o - 1) c := by unfold ah; rw [if_pos o0]
        rw [this]
        refine List.map_congr_left fun r hr => ?_
        rw [List.mem_range] at hr
        show 40 :: un k (o - 1) c r = un (k + 1) o c r
        conv => rhs; unfold un
        rw [if_neg (by omega), if_pos (by rw [this]; exact hr)]
      · rw [if_neg o0]
        have : ah o c = 0 := by unfold ah; rw [if_neg o0]
        rw [this]
        rfl
    · rw [List.map_map]
      by_cases oc : o < c
      · rw [if_pos oc, allW_eq (by omega) (by omega), List.map_map]
        refine List.map_congr_left fun r hr => ?_
        show 41 :: un k o (c - 1) r = un (k + 1) o c (ah o c + r)
        conv => rhs; unfold un
        rw [if_neg (by omega), if_neg (by omega), show ah o c + r - ah o c = r by omega]
      · rw [if_neg oc, W_low (by omega)]
        rfl
/-! ## how many there are: the sums of products -/
def rowL : Nat → List Nat
  | 0 => List.replicate 21 1
  | o + 1 => (List.range 21).foldl (fun acc c => acc ++ [if c = 0 then 0 else if c - 1 < o then 0 else (rowL o).getD c 0 + acc.getD (c - 1) 0]) []
end Rl

set_option linter.all false
namespace Rl
theorem w0_0 : W 0 0 = 1 := rfl
theorem w0_1 : W 0 1 = 1 := rfl
theorem w0_2 : W 0 2 = 1 := rfl
theorem w0_3 : W 0 3 = 1 := rfl
theorem w0_4 : W 0 4 = 1 := rfl
theorem w0_5 : W 0 5 = 1 := rfl
theorem w0_6 : W 0 6 = 1 := rfl
theorem w0_7 : W 0 7 = 1 := rfl
theorem w0_8 : W 0 8 = 1 := rfl
theorem w0_9 : W 0 9 = 1 := rfl
theorem w0_10 : W 0 10 = 1 := rfl
theorem w0_11 : W 0 11 = 1 := rfl
theorem w0_12 : W 0 12 = 1 := rfl
theorem w0_13 : W 0 13 = 1 := rfl
theorem w0_14 : W 0 14 = 1 := rfl
theorem w0_15 : W 0 15 = 1 := rfl
theorem w0_16 : W 0 16 = 1 := rfl
theorem w0_17 : W 0 17 = 1 := rfl
theorem w0_18 : W 0 18 = 1 := rfl
theorem w0_19 : W 0 19 = 1 := rfl
theorem w0_20 : W 0 20 = 1 := rfl
theorem w1_0 : W 1 0 = 0 := W_low (by decide)
theorem w1_1 : W 1 1 = 1 := (W_step 0 0).trans ((if_neg (by decide)).trans ((congr (congrArg Nat.add w0_1) w1_0).trans (by decide +kernel)))
theorem w1_2 : W 1 2 = 2 := (W_step 0 1).trans ((if_neg (by decide)).trans ((congr (congrArg Nat.add w0_2) w1_1).trans (by decide +kernel)))
theorem w1_3 : W 1 3 = 3 := (W_step 0 2).trans ((if_neg (by decide)).trans ((congr (congrArg Nat.add w0_3) w1_2).trans (by decide +kernel)))
theorem w1_4 : W 1 4 = 4 := (W_step 0 3).trans ((if_neg (by decide)).trans ((congr (congrArg Nat.add w0_4) w1_3).trans (by decide +kernel)))
theorem w1_5 : W 1 5 = 5 := (W_step 0 4).trans ((if_neg (by decide)).trans ((congr (congrArg Nat.add w0_5) w1_4).trans (by decide +kernel)))
theorem w1_6 : W 1 6 = 6 := (W_step 0 5).trans ((if_neg (by decide)).trans ((congr (congrArg Nat.add w0_6) w1_5).trans (by decide +kernel)))
theorem w1_7 : W 1 7 = 7 := (W_step 0 6).trans ((if_neg (by decide)).trans ((congr (congrArg Nat.add w0_7) w1_6).trans (by decide +kernel)))
theorem w1_8 : W 1 8 = 8 := (W_step 0 7).trans ((if_neg (by decide)).trans ((congr (congrArg Nat.add w0_8) w1_7).trans (by decide +kernel)))
theorem w1_9 : W 1 9 = 9 := (W_step 0 8).trans ((if_neg (by decide)).trans ((congr (congrArg Nat.add w0_9) w1_8).trans (by decide +kernel)))
theorem w1_10 : W 1 10 = 10 := (W_step 0 9).trans ((if_neg (by decide)).trans ((congr (congrArg Nat.add w0_10) w1_9).trans (by decide +kernel)))
theorem w1_11 : W 1 11 = 11 := (W_step 0 10).trans ((if_neg (by decide)).trans ((congr (congrArg Nat.add w0_11) w1_10).trans (by decide +kernel)))
theorem w1_12 : W 1 12 = 12 := (W_step 0 11).trans ((if_neg (by decide)).trans ((congr (congrArg Nat.add w0_12) w1_11).trans (by decide +kernel)))
theorem w1_13 : W 1 13 = 13 := (W_step 0 12).trans ((if_neg (by decide)).trans ((congr (congrArg Nat.add w0_13) w1_12).trans (by decide +kernel)))
theorem w1_14 : W 1 14 = 14 := (W_step 0 13).trans ((if_neg (by decide)).trans ((congr (congrArg Nat.add w0_14) w1_13).trans (by decide +kernel)))
theorem w1_15 : W 1 15 = 15 := (W_step 0 14).trans ((if_neg (by decide)).trans ((congr (congrArg Nat.add w0_15) w1_14).trans (by decide +kernel)))
theorem w1_16 : W 1 16 = 16 := (W_step 0 15).trans ((if_neg (by decide)).trans ((congr (congrArg Nat.add w0_16) w1_15).trans (by decide +kernel)))
theorem w1_17 : W 1 17 = 17 := (W_step 0 16).trans ((if_neg (by decide)).trans ((congr (congrArg Nat.add w0_17) w1_16).trans (by decide +kernel)))
theorem w1_18 : W 1 18 = 18 := (W_step 0 17).trans ((if_neg (by decide)).trans ((congr (congrArg Nat.add w0_18) w1_17).trans (by decide +kernel)))
theorem w1_19 : W 1 19 = 19 := (W_step 0 18).trans ((if_neg (by decide)).trans ((congr (congrArg Nat.add w0_19) w1_18).trans (by decide +kernel)))
theorem w1_20 : W 1 20 = 20 := (W_step 0 19).trans ((if_neg (by decide)).trans ((congr (congrArg Nat.add w0_20) w1_19).trans (by decide +kernel)))
theorem w2_1 : W 2 1 = 0 := W_low (by decide)
theorem w2_2 : W 2 2 = 2 := (W_step 1 1).trans ((if_neg (by decide)).trans ((congr (congrArg Nat.add w1_2) w2_1).trans (by decide +kernel)))
theorem w2_3 : W 2 3 = 5 := (W_step 1 2).trans ((if_neg (by decide)).trans ((congr (congrArg Nat.add w1_3) w2_2).trans (by decide +kernel)))
theorem w2_4 : W 2 4 = 9 := (W_step 1 3).trans ((if_neg (by decide)).trans ((congr (congrArg Nat.add w1_4) w2_3).trans (by decide +kernel)))
theorem w2_5 : W 2 5 = 14 := (W_step 1 4).trans ((if_neg (by decide)).trans ((congr (congrArg Nat.add w1_5) w2_4).trans (by decide +kernel)))
theorem w2_6 : W 2 6 = 20 := (W_step 1 5).trans ((if_neg (by decide)).trans ((congr (congrArg Nat.add w1_6) w2_5).trans (by decide +kernel)))
theorem w2_7 : W 2 7 = 27 := (W_step 1 6).trans ((if_neg (by decide)).trans ((congr (congrArg Nat.add w1_7) w2_6).trans (by decide +kernel)))
theorem w2_8 : W 2 8 = 35 := (W_step 1 7).trans ((if_neg (by decide)).trans ((congr (congrArg Nat.add w1_8) w2_7).trans (by decide +kernel)))
theorem w2_9 : W 2 9 = 44 := (W_step 1 8).trans ((if_neg (by decide)).trans ((congr (congrArg Nat.add w1_9) w2_8).trans (by decide +kernel)))
theorem w2_10 : W 2 10 = 54 := (W_step 1 9).trans ((if_neg (by decide)).trans ((congr (congrArg Nat.add w1_10) w2_9).trans (by decide +kernel)))
theorem w2_11 : W 2 11 = 65 := (W_step 1 10).trans ((if_neg (by decide)).trans ((congr (congrArg Nat.add w1_11) w2_10).trans (by decide +kernel)))
theorem w2_12 : W 2 12 = 77 := (W_step 1 11).trans ((if_neg (by decide)).trans ((congr (congrArg Nat.add w1_12) w2_11).trans (by decide +kernel)))
theorem w2_13 : W 2 13 = 90 := (W_step 1 12).trans ((if_neg (by decide)).trans ((congr (congrArg Nat.add w1_13) w2_12).trans (by decide +kernel)))
theorem w2_14 : W 2 14 = 104 := (W_step 1 13).trans ((if_neg (by decide)).trans ((congr (congrArg Nat.add w1_14) w2_13).trans (by decide +kernel)))
theorem w2_15 : W 2 15 = 119 := (W_step 1 14).trans ((if_neg (by decide)).trans ((congr (congrArg Nat.add w1_15) w2_14).trans (by decide +kernel)))
theorem w2_16 : W 2 16 = 135 := (W_step 1 15).trans ((if_neg (by decide)).trans ((congr (congrArg Nat.add w1_16) w2_15).trans (by decide +kernel)))
theorem w2_17 : W 2 17 = 152 := (W_step 1 16).trans ((if_neg (by decide)).trans ((congr (congrArg Nat.add w1_17) w2_16).trans (by decide +kernel)))
theorem w2_18 : W 2 18 = 170 := (W_step 1 17).trans ((if_neg (by decide)).trans ((congr (congrArg Nat.add w1_18) w2_17).trans (by decide +kernel)))
theorem w2_19 : W 2 19 = 189 := (W_step 1 18).trans ((if_neg (by decide)).trans ((congr (congrArg Nat.add w1_19) w2_18).trans (by decide +kernel)))
theorem w2_20 : W 2 20 = 209 := (W_step 1 19).trans ((if_neg (by decide)).trans ((congr (congrArg Nat.add w1_20) w2_19).trans (by decide +kernel)))
theorem w3_2 : W 3 2 = 0 := W_low (by decide)
theorem w3_3 : W 3 3 = 5 := (W_step 2 2).trans ((if_neg (by decide)).trans ((congr (congrArg Nat.add w2_3) w3_2).trans (by decide +kernel)))
theorem w3_4 : W 3 4 = 14 := (W_step 2 3).trans ((if_neg (by decide)).trans ((congr (congrArg Nat.add w2_4) w3_3).trans (by decide +kernel)))
theorem w3_5 : W 3 5 = 28 := (W_step 2 4).trans ((if_neg (by decide)).trans ((congr (congrArg Nat.add w2_5) w3_4).trans (by decide +kernel)))
theorem w3_6 : W 3 6 = 48 := (W_step 2 5).trans ((if_neg (by decide)).trans ((congr (congrArg Nat.add w2_6) w3_5).trans (by decide +kernel)))
theorem w3_7 : W 3 7 = 75 := (W_step 2 6).trans ((if_neg (by decide)).trans ((congr (congrArg Nat.add w2_7) w3_6).trans (by decide +kernel)))
theorem w3_8 : W 3 8 = 110 := (W_step 2 7).trans ((if_neg (by decide)).trans ((congr (congrArg Nat.add w2_8) w3_7).trans (by decide +kernel)))
theorem w3_9 : W 3 9 = 154 := (W_step 2 8).trans ((if_neg (by decide)).trans ((congr (congrArg Nat.add w2_9) w3_8).trans (by decide +kernel)))
theorem w3_10 : W 3 10 = 208 := (W_step 2 9).trans ((if_neg (by decide)).trans ((congr (congrArg Nat.add w2_10) w3_9).trans (by decide +kernel)))
theorem w3_11 : W 3 11 = 273 := (W_step 2 10).trans ((if_neg (by decide)).trans ((congr (congrArg Nat.add w2_11) w3_10).trans (by decide +kernel)))
theorem w3_12 : W 3 12 = 350 := (W_step 2 11).trans ((if_neg (by decide)).trans ((congr (congrArg Nat.add w2_12) w3_11).trans (by decide +kernel)))
theorem w3_13 : W 3 13 = 440 := (W_step 2 12).trans ((if_neg (by decide)).trans ((congr (congrArg Nat.add w2_13) w3_12).trans (by decide +kernel)))
theorem w3_14 : W 3 14 = 544 := (W_step 2 13).trans ((if_neg (by decide)).trans ((congr (congrArg Nat.add w2_14) w3_13).trans (by decide +kernel)))
theorem w3_15 : W 3 15 = 663 := (W_step 2 14).trans ((if_neg (by decide)).trans ((congr (congrArg Nat.add w2_15) w3_14).trans (by decide +kernel)))
theorem w3_16 : W 3 16 = 798 := (W_step 2 15).trans ((if_neg (by decide)).trans ((congr (congrArg Nat.add w2_16) w3_15).trans (by decide +kernel)))
theorem w3_17 : W 3 17 = 950 := (W_step 2 16).trans ((if_neg (by decide)).trans ((congr (congrArg Nat.add w2_17) w3_16).trans (by decide +kernel)))
theorem w3_18 : W 3 18 = 1120 := (W_step 2 17).trans ((if_neg (by decide)).trans ((congr (congrArg Nat.add w2_18) w3_17).trans (by decide +kernel)))
theorem w3_19 : W 3 19 = 1309 := (W_step 2 18).trans ((if_neg (by decide)).trans ((congr (congrArg Nat.add w2_19) w3_18).trans (by decide +kernel)))
theorem w3_20 : W 3 20 = 1518 := (W_step 2 19).trans ((if_neg (by decide)).trans ((congr (congrArg Nat.add w2_20) w3_19).trans (by decide +kernel)))
theorem w4_3 : W 4 3 = 0 := W_low (by decide)
theorem w4_4 : W 4 4 = 14 := (W_step 3 3).trans ((if_neg (by decide)).trans ((congr (congrArg Nat.add w3_4) w4_3).trans (by decide +kernel)))
theorem w4_5 : W 4 5 = 42 := (W_step 3 4).trans ((if_neg (by decide)).trans ((congr (congrArg Nat.add w3_5) w4_4).trans (by decide +kernel)))
theorem w4_6 : W 4 6 = 90 := (W_step 3 5).trans ((if_neg (by decide)).trans ((congr (congrArg Nat.add w3_6) w4_5).trans (by decide +kernel)))
theorem w4_7 : W 4 7 = 165 := (W_step 3 6).trans ((if_neg (by decide)).trans ((congr (congrArg Nat.add w3_7) w4_6).trans (by decide +kernel)))
theorem w4_8 : W 4 8 = 275 := (W_step 3 7).trans ((if_neg (by decide)).trans ((congr (congrArg Nat.add w3_8) w4_7).trans (by decide +kernel)))
theorem w4_9 : W 4 9 = 429 := (W_step 3 8).trans ((if_neg (by decide)).trans ((congr (congrArg Nat.add w3_9) w4_8).trans (by decide +kernel)))
theorem w4_10 : W 4 10 = 637 := (W_step 3 9).trans ((if_neg (by decide)).trans ((congr (congrArg Nat.add w3_10) w4_9).trans (by decide +kernel)))
theorem w4_11 : W 4 11 = 910 := (W_step 3 10).trans ((if_neg (by decide)).trans ((congr (congrArg Nat.add w3_11) w4_10).trans (by decide +kernel)))
theorem w4_12 : W 4 12 = 1260 := (W_step 3 11).trans ((if_neg (by decide)).trans ((congr (congrArg Nat.add w3_12) w4_11).trans (by decide +kernel)))
theorem w4_13 : W 4 13 = 1700 := (W_step 3 12).trans ((if_neg (by decide)).trans ((congr (congrArg Nat.add w3_13) w4_12).trans (by decide +kernel)))
theorem w4_14 : W 4 14 = 2244 := (W_step 3 13).trans ((if_neg (by decide)).trans ((congr (congrArg Nat.add w3_14) w4_13).trans (by decide +kernel)))
theorem w4_15 : W 4 15 = 2907 := (W_step 3 14).trans ((if_neg (by decide)).trans ((congr (congrArg Nat.add w3_15) w4_14).trans (by decide +kernel)))
theorem w4_16 : W 4 16 = 3705 := (W_step 3 15).trans ((if_neg (by decide)).trans ((congr (congrArg Nat.add w3_16) w4_15).trans (by decide +kernel)))
theorem w4_17 : W 4 17 = 4655 := (W_step 3 16).trans ((if_neg (by decide)).trans ((congr (congrArg Nat.add w3_17) w4_16).trans (by decide +kernel)))
theorem w4_18 : W 4 18 = 5775 := (W_step 3 17).trans ((if_neg (by decide)).trans ((congr (congrArg Nat.add w3_18) w4_17).trans (by decide +kernel)))
theorem w4_19 : W 4 19 = 7084 := (W_step 3 18).trans ((if_neg (by decide)).trans ((congr (congrArg Nat.add w3_19) w4_18).trans (by decide +kernel)))
theorem w4_20 : W 4 20 = 8602 := (W_step 3 19).trans ((if_neg (by decide)).trans ((congr (congrArg Nat.add w3_20) w4_19).trans (by decide +kernel)))
theorem w5_4 : W 5 4 = 0 := W_low (by decide)
theorem w5_5 : W 5 5 = 42 := (W_step 4 4).trans ((if_neg (by decide)).trans ((congr (congrArg Nat.add w4_5) w5_4).trans (by decide +kernel)))
theorem w5_6 : W 5 6 = 132 := (W_step 4 5).trans ((if_neg (by decide)).trans ((congr (congrArg Nat.add w4_6) w5_5).trans (by decide +kernel)))
theorem w5_7 : W 5 7 = 297 := (W_step 4 6).trans ((if_neg (by decide)).trans ((congr (congrArg Nat.add w4_7) w5_6).trans (by decide +kernel)))
theorem w5_8 : W 5 8 = 572 := (W_step 4 7).trans ((if_neg (by decide)).trans ((congr (congrArg Nat.add w4_8) w5_7).trans (by decide +kernel)))
theorem w5_9 : W 5 9 = 1001 := (W_step 4 8).trans ((if_neg (by decide)).trans ((congr (congrArg Nat.add w4_9) w5_8).trans (by decide +kernel)))
theorem w5_10 : W 5 10 = 1638 := (W_step 4 9).trans ((if_neg (by decide)).trans ((congr (congrArg Nat.add w4_10) w5_9).trans (by decide +kernel)))
theorem w5_11 : W 5 11 = 2548 := (W_step 4 10).trans ((if_neg (by decide)).trans ((congr (congrArg Nat.add w4_11) w5_10).trans (by decide +kernel)))
theorem w5_12 : W 5 12 = 3808 := (W_step 4 11).trans ((if_neg (by decide)).trans ((congr (congrArg Nat.add w4_12) w5_11).trans (by decide +kernel)))
theorem w5_13 : W 5 13 = 5508 := (W_step 4 12).trans ((if_neg (by decide)).trans ((congr (congrArg Nat.add w4_13) w5_12).trans (by decide +kernel)))
theorem w5_14 : W 5 14 = 7752 := (W_step 4 13).trans ((if_neg (by decide)).trans ((congr (congrArg Nat.add w4_14) w5_13).trans (by decide +kernel)))
theorem w5_15 : W 5 15 = 10659 := (W_step 4 14).trans ((if_neg (by decide)).trans ((congr (congrArg Nat.add w4_15) w5_14).trans (by decide +kernel)))
theorem w5_16 : W 5 16 = 14364 := (W_step 4 15).trans ((if_neg (by decide)).trans ((congr (congrArg Nat.add w4_16) w5_15).trans (by decide +kernel)))
theorem w5_17 : W 5 17 = 19019 := (W_step 4 16).trans ((if_neg (by decide)).trans ((congr (congrArg Nat.add w4_17) w5_16).trans (by decide +kernel)))
theorem w5_18 : W 5 18 = 24794 := (W_step 4 17).trans ((if_neg (by decide)).trans ((congr (congrArg Nat.add w4_18) w5_17).trans (by decide +kernel)))
theorem w5_19 : W 5 19 = 31878 := (W_step 4 18).trans ((if_neg (by decide)).trans ((congr (congrArg Nat.add w4_19) w5_18).trans (by decide +kernel)))
theorem w5_20 : W 5 20 = 40480 := (W_step 4 19).trans ((if_neg (by decide)).trans ((congr (congrArg Nat.add w4_20) w5_19).trans (by decide +kernel)))
theorem w6_5 : W 6 5 = 0 := W_low (by decide)
theorem w6_6 : W 6 6 = 132 := (W_step 5 5).trans ((if_neg (by decide)).trans ((congr (congrArg Nat.add w5_6) w6_5).trans (by decide +kernel)))
theorem w6_7 : W 6 7 = 429 := (W_step 5 6).trans ((if_neg (by decide)).trans ((congr (congrArg Nat.add w5_7) w6_6).trans (by decide +kernel)))
theorem w6_8 : W 6 8 = 1001 := (W_step 5 7).trans ((if_neg (by decide)).trans ((congr (congrArg Nat.add w5_8) w6_7).trans (by decide +kernel)))
theorem w6_9 : W 6 9 = 2002 := (W_step 5 8).trans ((if_neg (by decide)).trans ((congr (congrArg Nat.add w5_9) w6_8).trans (by decide +kernel)))
theorem w6_10 : W 6 10 = 3640 := (W_step 5 9).trans ((if_neg (by decide)).trans ((congr (congrArg Nat.add w5_10) w6_9).trans (by decide +kernel)))
theorem w6_11 : W 6 11 = 6188 := (W_step 5 10).trans ((if_neg (by decide)).trans ((congr (congrArg Nat.add w5_11) w6_10).trans (by decide +kernel)))
theorem w6_12 : W 6 12 = 9996 := (W_step 5 11).trans ((if_neg (by decide)).trans ((congr (congrArg Nat.add w5_12) w6_11).trans (by decide +kernel)))
theorem w6_13 : W 6 13 = 15504 := (W_step 5 12).trans ((if_neg (by decide)).trans ((congr (congrArg Nat.add w5_13) w6_12).trans (by decide +kernel)))
theorem w6_14 : W 6 14 = 23256 := (W_step 5 13).trans ((if_neg (by decide)).trans ((congr (congrArg Nat.add w5_14) w6_13).trans (by decide +kernel)))
theorem w6_15 : W 6 15 = 33915 := (W_step 5 14).trans ((if_neg (by decide)).trans ((congr (congrArg Nat.add w5_15) w6_14).trans (by decide +kernel)))
theorem w6_16 : W 6 16 = 48279 := (W_step 5 15).trans ((if_neg (by decide)).trans ((congr (congrArg Nat.add w5_16) w6_15).trans (by decide +kernel)))
theorem w6_17 : W 6 17 = 67298 := (W_step 5 16).trans ((if_neg (by decide)).trans ((congr (congrArg Nat.add w5_17) w6_16).trans (by decide +kernel)))
theorem w6_18 : W 6 18 = 92092 := (W_step 5 17).trans ((if_neg (by decide)).trans ((congr (congrArg Nat.add w5_18) w6_17).trans (by decide +kernel)))
theorem w6_19 : W 6 19 = 123970 := (W_step 5 18).trans ((if_neg (by decide)).trans ((congr (congrArg Nat.add w5_19) w6_18).trans (by decide +kernel)))
theorem w6_20 : W 6 20 = 164450 := (W_step 5 19).trans ((if_neg (by decide)).trans ((congr (congrArg Nat.add w5_20) w6_19).trans (by decide +kernel)))
theorem w7_6 : W 7 6 = 0 := W_low (by decide)
theorem w7_7 : W 7 7 = 429 := (W_step 6 6).trans ((if_neg (by decide)).trans ((congr (congrArg Nat.add w6_7) w7_6).trans (by decide +kernel)))
theorem w7_8 : W 7 8 = 1430 := (W_step 6 7).trans ((if_neg (by decide)).trans ((congr (congrArg Nat.add w6_8) w7_7).trans (by decide +kernel)))
theorem w7_9 : W 7 9 = 3432 := (W_step 6 8).trans ((if_neg (by decide)).trans ((congr (congrArg Nat.add w6_9) w7_8).trans (by decide +kernel)))
theorem w7_10 : W 7 10 = 7072 := (W_step 6 9).trans ((if_neg (by decide)).trans ((congr (congrArg Nat.add w6_10) w7_9).trans (by decide +kernel)))
theorem w7_11 : W 7 11 = 13260 := (W_step 6 10).trans ((if_neg (by decide)).trans ((congr (congrArg Nat.add w6_11) w7_10).trans (by decide +kernel)))
theorem w7_12 : W 7 12 = 23256 := (W_step 6 11).trans ((if_neg (by decide)).trans ((congr (congrArg Nat.add w6_12) w7_11).trans (by decide +kernel)))
theorem w7_13 : W 7 13 = 38760 := (W_step 6 12).trans ((if_neg (by decide)).trans ((congr (congrArg Nat.add w6_13) w7_12).trans (by decide +kernel)))
theorem w7_14 : W 7 14 = 62016 := (W_step 6 13).trans ((if_neg (by decide)).trans ((congr (congrArg Nat.add w6_14) w7_13).trans (by decide +kernel)))
theorem w7_15 : W 7 15 = 95931 := (W_step 6 14).trans ((if_neg (by decide)).trans ((congr (congrArg Nat.add w6_15) w7_14).trans (by decide +kernel)))
theorem w7_16 : W 7 16 = 144210 := (W_step 6 15).trans ((if_neg (by decide)).trans ((congr (congrArg Nat.add w6_16) w7_15).trans (by decide +kernel)))
theorem w7_17 : W 7 17 = 211508 := (W_step 6 16).trans ((if_neg (by decide)).trans ((congr (congrArg Nat.add w6_17) w7_16).trans (by decide +kernel)))
theorem w7_18 : W 7 18 = 303600 := (W_step 6 17).trans ((if_neg (by decide)).trans ((congr (congrArg Nat.add w6_18) w7_17).trans (by decide +kernel)))
theorem w7_19 : W 7 19 = 427570 := (W_step 6 18).trans ((if_neg (by decide)).trans ((congr (congrArg Nat.add w6_19) w7_18).trans (by decide +kernel)))
theorem w7_20 : W 7 20 = 592020 := (W_step 6 19).trans ((if_neg (by decide)).trans ((congr (congrArg Nat.add w6_20) w7_19).trans (by decide +kernel)))
theorem w8_7 : W 8 7 = 0 := W_low (by decide)
theorem w8_8 : W 8 8 = 1430 := (W_step 7 7).trans ((if_neg (by decide)).trans ((congr (congrArg Nat.add w7_8) w8_7).trans (by decide +kernel)))
theorem w8_9 : W 8 9 = 4862 := (W_step 7 8).trans ((if_neg (by decide)).trans ((congr (congrArg Nat.add w7_9) w8_8).trans (by decide +kernel)))
theorem w8_10 : W 8 10 = 11934 := (W_step 7 9).trans ((if_neg (by decide)).trans ((congr (congrArg Nat.add w7_10) w8_9).trans (by decide +kernel)))
theorem w8_11 : W 8 11 = 25194 := (W_step 7 10).trans ((if_neg (by decide)).trans ((congr (congrArg Nat.add w7_11) w8_10).trans (by decide +kernel)))
theorem w8_12 : W 8 12 = 48450 := (W_step 7 11).trans ((if_neg (by decide)).trans ((congr (congrArg Nat.add w7_12) w8_11).trans (by decide +kernel)))
theorem w8_13 : W 8 13 = 87210 := (W_step 7 12).trans ((if_neg (by decide)).trans ((congr (congrArg Nat.add w7_13) w8_12).trans (by decide +kernel)))
theorem w8_14 : W 8 14 = 149226 := (W_step 7 13).trans ((if_neg (by decide)).trans ((congr (congrArg Nat.add w7_14) w8_13).trans (by decide +kernel)))
theorem w8_15 : W 8 15 = 245157 := (W_step 7 14).trans ((if_neg (by decide)).trans ((congr (congrArg Nat.add w7_15) w8_14).trans (by decide +kernel)))
theorem w8_16 : W 8 16 = 389367 := (W_step 7 15).trans ((if_neg (by decide)).trans ((congr (congrArg Nat.add w7_16) w8_15).trans (by decide +kernel)))
theorem w8_17 : W 8 17 = 600875 := (W_step 7 16).trans ((if_neg (by decide)).trans ((congr (congrArg Nat.add w7_17) w8_16).trans (by decide +kernel)))
theorem w8_18 : W 8 18 = 904475 := (W_step 7 17).trans ((if_neg (by decide)).trans ((congr (congrArg Nat.add w7_18) w8_17).trans (by decide +kernel)))
theorem w8_19 : W 8 19 = 1332045 := (W_step 7 18).trans ((if_neg (by decide)).trans ((congr (congrArg Nat.add w7_19) w8_18).trans (by decide +kernel)))
theorem w8_20 : W 8 20 = 1924065 := (W_step 7 19).trans ((if_neg (by decide)).trans ((congr (congrArg Nat.add w7_20) w8_19).trans (by decide +kernel)))
theorem w9_8 : W 9 8 = 0 := W_low (by decide)
theorem w9_9 : W 9 9 = 4862 := (W_step 8 8).trans ((if_neg (by decide)).trans ((congr (congrArg Nat.add w8_9) w9_8).trans (by decide +kernel)))
theorem w9_10 : W 9 10 = 16796 := (W_step 8 9).trans ((if_neg (by decide)).trans ((congr (congrArg Nat.add w8_10) w9_9).trans (by decide +kernel)))
theorem w9_11 : W 9 11 = 41990 := (W_step 8 10).trans ((if_neg (by decide)).trans ((congr (congrArg Nat.add w8_11) w9_10).trans (by decide +kernel)))
theorem w9_12 : W 9 12 = 90440 := (W_step 8 11).trans ((if_neg (by decide)).trans ((congr (congrArg Nat.add w8_12) w9_11).trans (by decide +kernel)))
theorem w9_13 : W 9 13 = 177650 := (W_step 8 12).trans ((if_neg (by decide)).trans ((congr (congrArg Nat.add w8_13) w9_12).trans (by decide +kernel)))
theorem w9_14 : W 9 14 = 326876 := (W_step 8 13).trans ((if_neg (by decide)).trans ((congr (congrArg Nat.add w8_14) w9_13).trans (by decide +kernel)))
theorem w9_15 : W 9 15 = 572033 := (W_step 8 14).trans ((if_neg (by decide)).trans ((congr (congrArg Nat.add w8_15) w9_14).trans (by decide +kernel)))
theorem w9_16 : W 9 16 = 961400 := (W_step 8 15).trans ((if_neg (by decide)).trans ((congr (congrArg Nat.add w8_16) w9_15).trans (by decide +kernel)))
theorem w9_17 : W 9 17 = 1562275 := (W_step 8 16).trans ((if_neg (by decide)).trans ((congr (congrArg Nat.add w8_17) w9_16).trans (by decide +kernel)))
theorem w9_18 : W 9 18 = 2466750 := (W_step 8 17).trans ((if_neg (by decide)).trans ((congr (congrArg Nat.add w8_18) w9_17).trans (by decide +kernel)))
theorem w9_19 : W 9 19 = 3798795 := (W_step 8 18).trans ((if_neg (by decide)).trans ((congr (congrArg Nat.add w8_19) w9_18).trans (by decide +kernel)))
theorem w9_20 : W 9 20 = 5722860 := (W_step 8 19).trans ((if_neg (by decide)).trans ((congr (congrArg Nat.add w8_20) w9_19).trans (by decide +kernel)))
theorem w10_9 : W 10 9 = 0 := W_low (by decide)
theorem w10_10 : W 10 10 = 16796 := (W_step 9 9).trans ((if_neg (by decide)).trans ((congr (congrArg Nat.add w9_10) w10_9).trans (by decide +kernel)))
theorem w10_11 : W 10 11 = 58786 := (W_step 9 10).trans ((if_neg (by decide)).trans ((congr (congrArg Nat.add w9_11) w10_10).trans (by decide +kernel)))
theorem w10_12 : W 10 12 = 149226 := (W_step 9 11).trans ((if_neg (by decide)).trans ((congr (congrArg Nat.add w9_12) w10_11).trans (by decide +kernel)))
theorem w10_13 : W 10 13 = 326876 := (W_step 9 12).trans ((if_neg (by decide)).trans ((congr (congrArg Nat.add w9_13) w10_12).trans (by decide +kernel)))
theorem w10_14 : W 10 14 = 653752 := (W_step 9 13).trans ((if_neg (by decide)).trans ((congr (congrArg Nat.add w9_14) w10_13).trans (by decide +kernel)))
theorem w10_15 : W 10 15 = 1225785 := (W_step 9 14).trans ((if_neg (by decide)).trans ((congr (congrArg Nat.add w9_15) w10_14).trans (by decide +kernel)))
theorem w10_16 : W 10 16 = 2187185 := (W_step 9 15).trans ((if_neg (by decide)).trans ((congr (congrArg Nat.add w9_16) w10_15).trans (by decide +kernel)))
theorem w10_17 : W 10 17 = 3749460 := (W_step 9 16).trans ((if_neg (by decide)).trans ((congr (congrArg Nat.add w9_17) w10_16).trans (by decide +kernel)))
theorem w10_18 : W 10 18 = 6216210 := (W_step 9 17).trans ((if_neg (by decide)).trans ((congr (congrArg Nat.add w9_18) w10_17).trans (by decide +kernel)))
theorem w10_19 : W 10 19 = 10015005 := (W_step 9 18).trans ((if_neg (by decide)).trans ((congr (congrArg Nat.add w9_19) w10_18).trans (by decide +kernel)))
theorem w10_20 : W 10 20 = 15737865 := (W_step 9 19).trans ((if_neg (by decide)).trans ((congr (congrArg Nat.add w9_20) w10_19).trans (by decide +kernel)))
theorem w11_10 : W 11 10 = 0 := W_low (by decide)
theorem w11_11 : W 11 11 = 58786 := (W_step 10 10).trans ((if_neg (by decide)).trans ((congr (congrArg Nat.add w10_11) w11_10).trans (by decide +kernel)))
theorem w11_12 : W 11 12 = 208012 := (W_step 10 11).trans ((if_neg (by decide)).trans ((congr (congrArg Nat.add w10_12) w11_11).trans (by decide +kernel)))
theorem w11_13 : W 11 13 = 534888 := (W_step 10 12).trans ((if_neg (by decide)).trans ((congr (congrArg Nat.add w10_13) w11_12).trans (by decide +kernel)))
theorem w11_14 : W 11 14 = 1188640 := (W_step 10 13).trans ((if_neg (by decide)).trans ((congr (congrArg Nat.add w10_14) w11_13).trans (by decide +kernel)))
theorem w11_15 : W 11 15 = 2414425 := (W_step 10 14).trans ((if_neg (by decide)).trans ((congr (congrArg Nat.add w10_15) w11_14).trans (by decide +kernel)))
theorem w11_16 : W 11 16 = 4601610 := (W_step 10 15).trans ((if_neg (by decide)).trans ((congr (congrArg Nat.add w10_16) w11_15).trans (by decide +kernel)))
theorem w11_17 : W 11 17 = 8351070 := (W_step 10 16).trans ((if_neg (by decide)).trans ((congr (congrArg Nat.add w10_17) w11_16).trans (by decide +kernel)))
theorem w11_18 : W 11 18 = 14567280 := (W_step 10 17).trans ((if_neg (by decide)).trans ((congr (congrArg Nat.add w10_18) w11_17).trans (by decide +kernel)))
theorem w11_19 : W 11 19 = 24582285 := (W_step 10 18).trans ((if_neg (by decide)).trans ((congr (congrArg Nat.add w10_19) w11_18).trans (by decide +kernel)))
theorem w11_20 : W 11 20 = 40320150 := (W_step 10 19).trans ((if_neg (by decide)).trans ((congr (congrArg Nat.add w10_20) w11_19).trans (by decide +kernel)))
theorem w12_11 : W 12 11 = 0 := W_low (by decide)
theorem w12_12 : W 12 12 = 208012 := (W_step 11 11).trans ((if_neg (by decide)).trans ((congr (congrArg Nat.add w11_12) w12_11).trans (by decide +kernel)))
theorem w12_13 : W 12 13 = 742900 := (W_step 11 12).trans ((if_neg (by decide)).trans ((congr (congrArg Nat.add w11_13) w12_12).trans (by decide +kernel)))
theorem w12_14 : W 12 14 = 1931540 := (W_step 11 13).trans ((if_neg (by decide)).trans ((congr (congrArg Nat.add w11_14) w12_13).trans (by decide +kernel)))
theorem w12_15 : W 12 15 = 4345965 := (W_step 11 14).trans ((if_neg (by decide)).trans ((congr (congrArg Nat.add w11_15) w12_14).trans (by decide +kernel)))
theorem w12_16 : W 12 16 = 8947575 := (W_step 11 15).trans ((if_neg (by decide)).trans ((congr (congrArg Nat.add w11_16) w12_15).trans (by decide +kernel)))
theorem w12_17 : W 12 17 = 17298645 := (W_step 11 16).trans ((if_neg (by decide)).trans ((congr (congrArg Nat.add w11_17) w12_16).trans (by decide +kernel)))
theorem w12_18 : W 12 18 = 31865925 := (W_step 11 17).trans ((if_neg (by decide)).trans ((congr (congrArg Nat.add w11_18) w12_17).trans (by decide +kernel)))
theorem w12_19 : W 12 19 = 56448210 := (W_step 11 18).trans ((if_neg (by decide)).trans ((congr (congrArg Nat.add w11_19) w12_18).trans (by decide +kernel)))
theorem w12_20 : W 12 20 = 96768360 := (W_step 11 19).trans ((if_neg (by decide)).trans ((congr (congrArg Nat.add w11_20) w12_19).trans (by decide +kernel)))
theorem w13_12 : W 13 12 = 0 := W_low (by decide)
theorem w13_13 : W 13 13 = 742900 := (W_step 12 12).trans ((if_neg (by decide)).trans ((congr (congrArg Nat.add w12_13) w13_12).trans (by decide +kernel)))
theorem w13_14 : W 13 14 = 2674440 := (W_step 12 13).trans ((if_neg (by decide)).trans ((congr (congrArg Nat.add w12_14) w13_13).trans (by decide +kernel)))
theorem w13_15 : W 13 15 = 7020405 := (W_step 12 14).trans ((if_neg (by decide)).trans ((congr (congrArg Nat.add w12_15) w13_14).trans (by decide +kernel)))
theorem w13_16 : W 13 16 = 15967980 := (W_step 12 15).trans ((if_neg (by decide)).trans ((congr (congrArg Nat.add w12_16) w13_15).trans (by decide +kernel)))
theorem w13_17 : W 13 17 = 33266625 := (W_step 12 16).trans ((if_neg (by decide)).trans ((congr (congrArg Nat.add w12_17) w13_16).trans (by decide +kernel)))
theorem w13_18 : W 13 18 = 65132550 := (W_step 12 17).trans ((if_neg (by decide)).trans ((congr (congrArg Nat.add w12_18) w13_17).trans (by decide +kernel)))
theorem w13_19 : W 13 19 = 121580760 := (W_step 12 18).trans ((if_neg (by decide)).trans ((congr (congrArg Nat.add w12_19) w13_18).trans (by decide +kernel)))
theorem w13_20 : W 13 20 = 218349120 := (W_step 12 19).trans ((if_neg (by decide)).trans ((congr (congrArg Nat.add w12_20) w13_19).trans (by decide +kernel)))
theorem w14_13 : W 14 13 = 0 := W_low (by decide)
theorem w14_14 : W 14 14 = 2674440 := (W_step 13 13).trans ((if_neg (by decide)).trans ((congr (congrArg Nat.add w13_14) w14_13).trans (by decide +kernel)))
theorem w14_15 : W 14 15 = 9694845 := (W_step 13 14).trans ((if_neg (by decide)).trans ((congr (congrArg Nat.add w13_15) w14_14).trans (by decide +kernel)))
theorem w14_16 : W 14 16 = 25662825 := (W_step 13 15).trans ((if_neg (by decide)).trans ((congr (congrArg Nat.add w13_16) w14_15).trans (by decide +kernel)))
theorem w14_17 : W 14 17 = 58929450 := (W_step 13 16).trans ((if_neg (by decide)).trans ((congr (congrArg Nat.add w13_17) w14_16).trans (by decide +kernel)))
theorem w14_18 : W 14 18 = 124062000 := (W_step 13 17).trans ((if_neg (by decide)).trans ((congr (congrArg Nat.add w13_18) w14_17).trans (by decide +kernel)))
theorem w14_19 : W 14 19 = 245642760 := (W_step 13 18).trans ((if_neg (by decide)).trans ((congr (congrArg Nat.add w13_19) w14_18).trans (by decide +kernel)))
theorem w14_20 : W 14 20 = 463991880 := (W_step 13 19).trans ((if_neg (by decide)).trans ((congr (congrArg Nat.add w13_20) w14_19).trans (by decide +kernel)))
theorem w15_14 : W 15 14 = 0 := W_low (by decide)
theorem w15_15 : W 15 15 = 9694845 := (W_step 14 14).trans ((if_neg (by decide)).trans ((congr (congrArg Nat.add w14_15) w15_14).trans (by decide +kernel)))
theorem w15_16 : W 15 16 = 35357670 := (W_step 14 15).trans ((if_neg (by decide)).trans ((congr (congrArg Nat.add w14_16) w15_15).trans (by decide +kernel)))
theorem w15_17 : W 15 17 = 94287120 := (W_step 14 16).trans ((if_neg (by decide)).trans ((congr (congrArg Nat.add w14_17) w15_16).trans (by decide +kernel)))
theorem w15_18 : W 15 18 = 218349120 := (W_step 14 17).trans ((if_neg (by decide)).trans ((congr (congrArg Nat.add w14_18) w15_17).trans (by decide +kernel)))
theorem w15_19 : W 15 19 = 463991880 := (W_step 14 18).trans ((if_neg (by decide)).trans ((congr (congrArg Nat.add w14_19) w15_18).trans (by decide +kernel)))
theorem w15_20 : W 15 20 = 927983760 := (W_step 14 19).trans ((if_neg (by decide)).trans ((congr (congrArg Nat.add w14_20) w15_19).trans (by decide +kernel)))
theorem w16_15 : W 16 15 = 0 := W_low (by decide)
theorem w16_16 : W 16 16 = 35357670 := (W_step 15 15).trans ((if_neg (by decide)).trans ((congr (congrArg Nat.add w15_16) w16_15).trans (by decide +kernel)))
theorem w16_17 : W 16 17 = 129644790 := (W_step 15 16).trans ((if_neg (by decide)).trans ((congr (congrArg Nat.add w15_17) w16_16).trans (by decide +kernel)))
theorem w16_18 : W 16 18 = 347993910 := (W_step 15 17).trans ((if_neg (by decide)).trans ((congr (congrArg Nat.add w15_18) w16_17).trans (by decide +kernel)))
theorem w16_19 : W 16 19 = 811985790 := (W_step 15 18).trans ((if_neg (by decide)).trans ((congr (congrArg Nat.add w15_19) w16_18).trans (by decide +kernel)))
theorem w16_20 : W 16 20 = 1739969550 := (W_step 15 19).trans ((if_neg (by decide)).trans ((congr (congrArg Nat.add w15_20) w16_19).trans (by decide +kernel)))
theorem w17_16 : W 17 16 = 0 := W_low (by decide)
theorem w17_17 : W 17 17 = 129644790 := (W_step 16 16).trans ((if_neg (by decide)).trans ((congr (congrArg Nat.add w16_17) w17_16).trans (by decide +kernel)))
theorem w17_18 : W 17 18 = 477638700 := (W_step 16 17).trans ((if_neg (by decide)).trans ((congr (congrArg Nat.add w16_18) w17_17).trans (by decide +kernel)))
theorem w17_19 : W 17 19 = 1289624490 := (W_step 16 18).trans ((if_neg (by decide)).trans ((congr (congrArg Nat.add w16_19) w17_18).trans (by decide +kernel)))
theorem w17_20 : W 17 20 = 3029594040 := (W_step 16 19).trans ((if_neg (by decide)).trans ((congr (congrArg Nat.add w16_20) w17_19).trans (by decide +kernel)))
theorem w18_17 : W 18 17 = 0 := W_low (by decide)
theorem w18_18 : W 18 18 = 477638700 := (W_step 17 17).trans ((if_neg (by decide)).trans ((congr (congrArg Nat.add w17_18) w18_17).trans (by decide +kernel)))
theorem w18_19 : W 18 19 = 1767263190 := (W_step 17 18).trans ((if_neg (by decide)).trans ((congr (congrArg Nat.add w17_19) w18_18).trans (by decide +kernel)))
theorem w18_20 : W 18 20 = 4796857230 := (W_step 17 19).trans ((if_neg (by decide)).trans ((congr (congrArg Nat.add w17_20) w18_19).trans (by decide +kernel)))
theorem w19_18 : W 19 18 = 0 := W_low (by decide)
theorem w19_19 : W 19 19 = 1767263190 := (W_step 18 18).trans ((if_neg (by decide)).trans ((congr (congrArg Nat.add w18_19) w19_18).trans (by decide +kernel)))
theorem w19_20 : W 19 20 = 6564120420 := (W_step 18 19).trans ((if_neg (by decide)).trans ((congr (congrArg Nat.add w18_20) w19_19).trans (by decide +kernel)))
theorem w20_19 : W 20 19 = 0 := W_low (by decide)
theorem w20_20 : W 20 20 = 6564120420 := (W_step 19 19).trans ((if_neg (by decide)).trans ((congr (congrArg Nat.add w19_20) w20_19).trans (by decide +kernel)))
def catT : List Nat := [1, 1, 2, 5, 14, 42, 132, 429, 1430, 4862, 16796, 58786, 208012, 742900, 2674440, 9694845, 35357670, 129644790, 477638700, 1767263190, 6564120420]
theorem catT_eq : ∀ k, k ≤ 20 → W k k = catT.getD k 0
  | 0, _ => w0_0
  | 1, _ => w1_1
  | 2, _ => w2_2
  | 3, _ => w3_3
  | 4, _ => w4_4
  | 5, _ => w5_5
  | 6, _ => w6_6
  | 7, _ => w7_7
  | 8, _ => w8_8
  | 9, _ => w9_9
  | 10, _ => w10_10
  | 11, _ => w11_11
  | 12, _ => w12_12
  | 13, _ => w13_13
  | 14, _ => w14_14
  | 15, _ => w15_15
  | 16, _ => w16_16
  | 17, _ => w17_17
  | 18, _ => w18_18
  | 19, _ => w19_19
  | 20, _ => w20_20
  | n + 21, h => absurd h (by omega)
theorem W_small {k : Nat} (h : k ≤ 5) : W k k ≤ 42 := by
  rw [catT_eq k (by omega)]
  have : ∀ k, k < 6 → catT.getD k 0 ≤ 42 := by decide +kernel
  exact this k (by omega)
end Rl

set_option Elab.async false
set_option linter.all false
set_option maxRecDepth 100000
namespace L2
open PySem PySem.Spec PyProof.Rows
/-- a list comprehension without tests, by an invariant of the items so far -/
theorem comp_inv {J : It} {g : TG} {te : TE} {p : Addr} {H : Hp} {σ0 : St} {Fin : Hp → Prop} (n : Nat) (Pv : Nat → List V → St → Hp → Prop) (hn : n ≤ sizeLine) (h0 : Pv 0 [] σ0 (upd H p (.lst [])))
    (hlen : ∀ i ys σ H', Pv i ys σ H' → ys.length = i)
    (hacc : ∀ i ys σ H', Pv i ys σ H' → H' p = some (.lst ys))
    (hJ : ∀ i ys σ H', i < n → Pv i ys σ H' → J.go i H') (hE : ∀ ys σ H', Pv n ys σ H' → J.stop n H')
    (ht : ∀ i x ys σ' H' H2 (k : St → V → Hp → Prop), i < n → Pv i ys σ' H' → J.yld i H' x H2 → (∀ σ3 y H4, H4 p = some (.lst ys) → Pv (i + 1) (ys ++ [y]) σ3 (upd H4 p (.lst (ys ++ [y]))) → k σ3 y H4) → g x σ' H2 fun σ3 H3 => te σ3 H3 fun y H4 => k σ3 y H4)
    (fin : ∀ ys σ H', Pv n ys σ H' → Fin H') :
    ∃ W : Nat → Nat → List V → St → Hp → Prop, (∃ m, W 0 m [] σ0 (upd H p (.lst []))) ∧ CompW J g tAlways te p W Fin := by
  refine ⟨fun i m ys σ' H' => m = n - i ∧ i ≤ n ∧ Pv i ys σ' H', ⟨n, by simp, Nat.zero_le _, h0⟩, ?_⟩
  rintro i m ys σ' H' ⟨rfl, hi, hP⟩
  refine ⟨hacc _ _ _ _ hP, ?_⟩
  by_cases hlt : i < n
  · refine .inr ⟨hJ i ys σ' H' hlt hP, fun x H2 y => ?_⟩
    refine ht i x ys σ' H' H2 (fun σ3 y H4 => H4 p = some (.lst ys) ∧ ys.length < sizeLine ∧ ∃ m', m' < n - i ∧ m' = n - (i + 1) ∧ i + 1 ≤ n ∧ Pv (i + 1) (ys ++ [y]) σ3 (upd H4 p (.lst (ys ++ [y])))) hlt hP y (fun σ3 y H4 q1 q2 => ?_)
    exact ⟨q1, by rw [hlen _ _ _ _ hP]; omega, n - (i + 1), by omega, rfl, hlt, q2⟩
  · have e : i = n := by omega
    subst e
    exact .inl ⟨hE _ _ _ hP, fin _ _ _ hP⟩
end L2
namespace Rl
open PySem L2
/-- the table of ways, as it lies -/
def WaysAt (H : Hp) (r : Addr) (m : Nat) : Prop := ∃ as : List Addr, H r = some (.lst (as.map V.ref)) ∧ as.length = m + 1 ∧ ∀ (o : Nat) (x : Addr), as[o]? = some x → H x = some (.lst ((tab (m + 1) (W o)).map V.int))
theorem WaysAt.same {H H' : Hp} {r : Addr} {m : Nat} (h : WaysAt H r m) (S : Same H H') : WaysAt H' r m := by
  obtain ⟨as, h1, h2, h3⟩ := h
  exact ⟨as, S _ _ h1, h2, fun o x hx => S _ _ (h3 o x hx)⟩
end Rl

set_option Elab.async false
set_option linter.all false
set_option maxRecDepth 100000
namespace Rl
open PySem L2
/-! ## words put together sign by sign -/
def stepW (m k : Nat) (e : List Nat × Nat) : List (List Nat × Nat) := (if e.2 < 2 * m - k then [(e.1 ++ [40], e.2 + 1)] else []) ++ (if 0 < e.2 then [(e.1 ++ [41], e.2 - 1)] else [])
def wl (m : Nat) : Nat → List (List Nat × Nat)
  | 0 => [([], 0)]
  | k + 1 => (wl m k).flatMap (stepW m k)
theorem mem_step {m k : Nat} {e f : List Nat × Nat} (h : f ∈ stepW m k e) : (e.2 < 2 * m - k ∧ f = (e.1 ++ [40], e.2 + 1)) ∨ (0 < e.2 ∧ f = (e.1 ++ [41], e.2 - 1)) := by
  unfold stepW at h
  rcases List.mem_append.mp h with z | z
  · split at z
    · left; exact ⟨by assumption, by simpa using z⟩
    · simp at z
  · split at z
    · right; exact ⟨by assumption, by simpa using z⟩
    · simp at z
theorem wl_ok {m : Nat} : ∀ {k : Nat}, k ≤ 2 * m → ∀ e, e ∈ wl m k → e.2 ≤ 2 * m - k ∧ (2 * m - k - e.2) % 2 = 0 ∧ e.1.length = k
  | 0, h, e, he => by
    have : e = ([], 0) := by simpa [wl] using he
    subst this
    exact ⟨by omega, by omega, rfl⟩
  | k + 1, h, e, he => by
    obtain ⟨d, hd, hs⟩ := List.mem_flatMap.mp (show e ∈ (wl m k).flatMap (stepW m k) from he)
    obtain ⟨i1, i2, i3⟩ := wl_ok (by omega) d hd
    rcases mem_step hs with ⟨c, rfl⟩ | ⟨c, rfl⟩
    · exact ⟨by show d.2 + 1 ≤ _; omega, by show (_ - (d.2 + 1)) % 2 = 0; omega, by show (d.1 ++ [40]).length = _; rw [List.length_append, i3]; rfl⟩
    · exact ⟨by show d.2 - 1 ≤ _; omega, by show (_ - (d.2 - 1)) % 2 = 0; omega, by show (d.1 ++ [41]).length = _; rw [List.length_append, i3]; rfl⟩
theorem step_len (m k : Nat) (e : List Nat × Nat) : (stepW m k e).length ≤ 2 := by
  unfold stepW
  split <;> split <;> simp
theorem flat_len {α β : Type} (f : α → List β) (h : ∀ a, (f a).length ≤ 2) : ∀ l : List α, (l.flatMap f).length ≤ 2 * l.length
  | [] => by simp
  | a :: r => by
    rw [List.flatMap_cons, List.length_append, List.length_cons]
    have := flat_len f h r
    have := h a
    omega
theorem wl_len (m : Nat) : ∀ k, (wl m k).length ≤ 2 ^ k
  | 0 => by simp [wl]
  | k + 1 => by
    have h1 := flat_len (stepW m k) (step_len m k) (wl m k)
    have h2 := wl_len m k
    show ((wl m k).flatMap (stepW m k)).length ≤ _
    rw [Nat.pow_succ]
    omega
def cmpl (m k : Nat) (e : List Nat × Nat) : List (List Nat) := (allW (2 * m - k) ((2 * m - k - e.2) / 2) ((2 * m - k + e.2) / 2)).map (e.1 ++ ·)
theorem cmpl_step {m k : Nat} (hk : k < 2 * m) {e : List Nat × Nat} (h1 : e.2 ≤ 2 * m - k) (h2 : (2 * m - k - e.2) % 2 = 0) : (stepW m k e).flatMap (cmpl m (k + 1)) = cmpl m k e := by
  obtain ⟨j, hj⟩ : ∃ j, 2 * m - k = j + 1 := ⟨2 * m - k - 1, by omega⟩
  have hj2 : 2 * m - (k + 1) = j := by omega
  unfold cmpl
  rw [hj, hj2]
  conv => rhs; unfold allW
  unfold stepW
  rw [List.flatMap_append, List.map_append]
  congr 1
  · by_cases c : e.2 < 2 * m - k
    · rw [if_pos c, if_pos (by omega)]
      simp only [List.flatMap_cons, List.flatMap_nil, List.append_nil]
      rw [show (j - (e.2 + 1)) / 2 = (j + 1 - e.2) / 2 - 1 by omega, show (j + (e.2 + 1)) / 2 = (j + 1 + e.2) / 2 by congr 1; omega, List.map_map]
      refine List.map_congr_left fun w _ => ?_
      show e.1 ++ [40] ++ w = e.1 ++ (40 :: w)
      simp
    · rw [if_neg c, if_neg (by omega)]
      rfl
  · by_cases c : 0 < e.2
    · rw [if_pos c, if_pos (by omega)]
      simp only [List.flatMap_cons, List.flatMap_nil, List.append_nil]
      rw [show (j - (e.2 - 1)) / 2 = (j + 1 - e.2) / 2 by congr 1; omega, show (j + (e.2 - 1)) / 2 = (j + 1 + e.2) / 2 - 1 by omega, List.map_map]
      refine List.map_congr_left fun w _ => ?_
      show e.1 ++ [41] ++ w = e.1 ++ (41 :: w)
      simp
    · rw [if_neg c, if_neg (by omega)]
      rfl
theorem flatMap_congr' {α β : Type} {f g : α → List β} : ∀ {l : List α}, (∀ a, a ∈ l → f a = g a) → l.flatMap f = l.flatMap g
  | [], _ => rfl
  | a :: r, h => by rw [List.flatMap_cons, List.flatMap_cons, h a List.mem_cons_self, flatMap_congr' fun b hb => h b (List.mem_cons_of_mem _ hb)]
theorem wl_all {m : Nat} : ∀ {k : Nat}, k ≤ 2 * m → (wl m k).flatMap (cmpl m k) = allW (2 * m) m m
  | 0, h => by
    show [(([] : List Nat), 0)].flatMap (cmpl m 0) = _
    simp only [List.flatMap_cons, List.flatMap_nil, List.append_nil]
    unfold cmpl
    rw [show (2 * m - 0 - 0) / 2 = m by omega, show (2 * m - 0 + 0) / 2 = m by omega, Nat.sub_zero]
    conv => rhs; rw [← List.map_id (allW (2 * m) m m)]
    refine List.map_congr_left fun w _ => ?_
    simp
  | k + 1, h => by
    show ((wl m k).flatMap (stepW m k)).flatMap (cmpl m (k + 1)) = _
    rw [List.flatMap_assoc, ← wl_all (k := k) (by omega)]
    exact flatMap_congr' fun e he => cmpl_step (by omega) (wl_ok (by omega) e he).1 (wl_ok (by omega) e he).2.1
theorem flatMap_one {α β : Type} {f : α → List β} {g : α → β} : ∀ {l : List α}, (∀ a, a ∈ l → f a = [g a]) → l.flatMap f = l.map g
  | [], _ => rfl
  | a :: r, h => by rw [List.flatMap_cons, h a List.mem_cons_self, flatMap_one fun b hb => h b (List.mem_cons_of_mem _ hb)]; rfl
theorem wl_words (m : Nat) : (wl m (2 * m)).map (·.1) = (List.range (W m m)).map (un (2 * m) m m) := by
  rw [← allW_eq (by omega) (Nat.le_refl _), ← wl_all (Nat.le_refl _)]
  symm
  refine flatMap_one fun e he => ?_
  unfold cmpl
  rw [Nat.sub_self]
  show [e.1 ++ []] = _
  rw [List.append_nil]
theorem wl_okw {m : Nat} {e : List Nat × Nat} (h : e ∈ wl m (2 * m)) : Okw m m e.1 := by
  have : e.1 ∈ (List.range (W m m)).map (un (2 * m) m m) := by rw [← wl_words]; exact List.mem_map.mpr ⟨e, h, rfl⟩
  obtain ⟨r, hr, e1⟩ := List.mem_map.mp this
  rw [← e1]
  exact (un_ok (by omega) (List.mem_range.mp hr)).1
/-! ## as they lie: tuples of a text and a number -/
def Tups (H : Hp) (as : List Addr) (es : List (List Nat × Nat)) : Prop := as.length = es.length ∧ ∀ (i : Nat) (x : Addr) (e : List Nat × Nat), as[i]? = some x → es[i]? = some e → ∃ z : Str, H x = some (.tup [.str z, .int (e.2 : Nat)]) ∧ z.cps.toList = e.1
theorem Tups.nil (H : Hp) : Tups H [] [] := ⟨rfl, fun i x e h => by simp at h⟩
theorem Tups.same {H H' : Hp} {as : List Addr} {es : List (List Nat × Nat)} (h : Tups H as es) (S : Same H H') : Tups H' as es :=
  ⟨h.1, fun i x e h1 h2 => by obtain ⟨z, a, b⟩ := h.2 i x e h1 h2; exact ⟨z, S _ _ a, b⟩⟩
theorem Tups.at {H : Hp} {as : List Addr} {es : List (List Nat × Nat)} (h : Tups H as es) {i : Nat} {x : Addr} (hx : as[i]? = some x) : ∃ e, es[i]? = some e ∧ ∃ z : Str, H x = some (.tup [.str z, .int (e.2 : Nat)]) ∧ z.cps.toList = e.1 := by
  have hi := (List.getElem?_eq_some_iff.mp hx).1
  have : i < es.length := by rw [← h.1]; exact hi
  exact ⟨es[i], List.getElem?_eq_getElem this, h.2 i x _ hx (List.getElem?_eq_getElem this)⟩
theorem Tups.upd {H : Hp} {as : List Addr} {es : List (List Nat × Nat)} {l : Addr} {xs : List V} {o : HO} (h : Tups H as es) (hl : H l = some (.lst xs)) : Tups (upd H l o) as es :=
  ⟨h.1, fun i x e h1 h2 => by
    obtain ⟨z, a, b⟩ := h.2 i x e h1 h2
    refine ⟨z, ?_, b⟩
    rw [upd_ne]
    · exact a
    · intro t
      rw [t, hl] at a
      cases a⟩
theorem Tups.push {H : Hp} {as : List Addr} {es : List (List Nat × Nat)} {x : Addr} {z : Str} {e : List Nat × Nat} (h : Tups H as es) (hx : H x = some (.tup [.str z, .int (e.2 : Nat)])) (hz : z.cps.toList = e.1) : Tups H (as ++ [x]) (es ++ [e]) := by
  refine ⟨by rw [List.length_append, List.length_append, h.1]; rfl, fun i y f h1 h2 => ?_⟩
  by_cases c : i < as.length
  · rw [List.getElem?_append_left c] at h1
    rw [List.getElem?_append_left (by rw [← h.1]; exact c)] at h2
    exact h.2 i y f h1 h2
  · rw [List.getElem?_append_right (by omega)] at h1
    rw [List.getElem?_append_right (by rw [← h.1]; omega), ← h.1] at h2
    have c0 : i - as.length = 0 := by
      have := (List.getElem?_eq_some_iff.mp h1).1
      simp at this
      omega
    rw [c0] at h1 h2
    cases h1
    cases h2
    exact ⟨z, hx, hz⟩
theorem lt_line {n : Nat} (h : n ≤ 100000) : n < sizeLine := Nat.lt_of_le_of_lt h (by decide)
end Rl

set_option Elab.async false
set_option linter.all false
set_option maxRecDepth 100000
namespace Rl
open PySem L2
theorem many_congr {n : Nat} {a b a' b' : Nat → Nat} (ha : ∀ i, i < n → a i = a' i) (hb : ∀ i, i < n → b i = b' i) : many n a b = many n a' b' := by
  unfold many
  refine cls_eq Conn.eqv Conn.eqv (fun x => x) (fun i j hi hj => ?_) (fun _ h => h) fun x hx => ⟨x, hx, .refl _⟩
  constructor
  · exact Conn.mono fun x y ⟨hx, t⟩ => ⟨hx, by rw [ha x hx, hb x hx] at t; exact t⟩
  · exact Conn.mono fun x y ⟨hx, t⟩ => ⟨hx, by rw [ha x hx, hb x hx]; exact t⟩
/-- how many of the rows make so many roads with a -/
noncomputable def cnt1 (m k : Nat) (a : Nat → Nat) (gs : List (Nat → Nat)) : Nat := (gs.filter fun b => decide (many (2 * m) a b = k)).length
noncomputable def cntP (m k : Nat) (as gs : List (Nat → Nat)) : Nat := (as.map fun a => cnt1 m k a gs).sum
theorem cnt1_map (m k : Nat) (a : Nat → Nat) (gs : List (Nat → Nat)) : cnt1 m k a gs = ((gs.map fun b => decide (many (2 * m) a b = k)).filter id).length := by
  unfold cnt1
  rw [List.filter_map, List.length_map]
  rfl
theorem cnt_same {m k : Nat} {gs gs' : List (Nat → Nat)} (h1 : ∀ g, g ∈ gs → IsArcs (2 * m) g) (h2 : ∀ g, g ∈ gs' → IsArcs (2 * m) g) (hw : gs.map (word (2 * m)) = gs'.map (word (2 * m))) : cntP m k gs gs = cntP m k gs' gs' := by
  have len : gs.length = gs'.length := by have := congrArg List.length hw; simpa using this
  have agree : ∀ (i : Nat) (g g' : Nat → Nat), gs[i]? = some g → gs'[i]? = some g' → ∀ j, j < 2 * m → g j = g' j := fun i g g' hg hg' => by
    have := congrArg (fun l => l[i]?) hw
    simp only [List.getElem?_map, hg, hg'] at this
    exact arcs_same (h1 g (List.mem_of_getElem? hg)) (h2 g' (List.mem_of_getElem? hg')) (word_same (Option.some.inj this))
  have ext : ∀ {β : Type} (F F' : (Nat → Nat) → β), (∀ (i : Nat) (g g' : Nat → Nat), gs[i]? = some g → gs'[i]? = some g' → F g = F' g') → gs.map F = gs'.map F' := fun F F' hF => by
    apply List.ext_getElem?
    intro i
    rw [List.getElem?_map, List.getElem?_map]
    by_cases c : i < gs.length
    · have e1 : gs[i]? = some gs[i] := List.getElem?_eq_getElem c
      have e2 : gs'[i]? = some (gs'[i]'(by omega)) := List.getElem?_eq_getElem (by omega)
      rw [e1, e2]
      exact congrArg some (hF i _ _ e1 e2)
    · rw [List.getElem?_eq_none (by omega), List.getElem?_eq_none (by omega)]
      rfl
  unfold cntP
  rw [ext _ (fun a => cnt1 m k a gs') fun i g g' hg hg' => ?_]
  rw [cnt1_map, cnt1_map]
  congr 2
  refine ext _ _ fun j b b' hb hb' => ?_
  rw [many_congr (agree i g g' hg hg') (agree j b b' hb hb')]
theorem cntP_take {m k : Nat} {as gs : List (Nat → Nat)} {i : Nat} {a : Nat → Nat} (h : as[i]? = some a) : cntP m k (as.take (i + 1)) gs = cntP m k (as.take i) gs + cnt1 m k a gs := by
  unfold cntP
  rw [List.take_succ, h, List.map_append, List.sum_append]
  simp
theorem cnt1_take {m k : Nat} {gs : List (Nat → Nat)} {i : Nat} {a b : Nat → Nat} (h : gs[i]? = some b) : cnt1 m k a (gs.take (i + 1)) = cnt1 m k a (gs.take i) + (if many (2 * m) a b = k then 1 else 0) := by
  unfold cnt1
  rw [List.take_succ, h, List.filter_append, List.length_append]
  congr 1
  by_cases c : many (2 * m) a b = k
  · simp [c]
  · simp [c]
/-- the rows that lie: the row i -/
theorem RowsAt.arcs {H H' : Hp} {as : List Addr} {gs : List (Nat → Nat)} {n : Nat} (R : RowsAt H H' as (gs.map fun g => (List.range n).map g)) {i : Nat} {x : Addr} (h : as[i]? = some x) : ∃ g, gs[i]? = some g ∧ H' x = some (.lst ((tab n g).map V.int)) := by
  obtain ⟨w, hw, e⟩ := R.at h
  rw [List.getElem?_map] at hw
  obtain ⟨g, hg, rfl⟩ := Option.map_eq_some_iff.mp hw
  exact ⟨g, hg, by rw [e, ni_tab]⟩
end Rl
namespace Rl
open PySem L2
theorem map_getD {α : Type} (l : List α) (d : α) : (List.range l.length).map (fun j => l.getD j d) = l := by
  apply List.ext_getElem?
  intro i
  rw [List.getElem?_map]
  by_cases c : i < l.length
  · rw [List.getElem?_range c]
    simp [List.getD_eq_getElem?_getD, List.getElem?_eq_getElem c]
  · rw [List.getElem?_eq_none (by simpa using c), List.getElem?_eq_none (by omega)]
    rfl
theorem cnt1_range (m k : Nat) (a : Nat → Nat) (gs : List (Nat → Nat)) : ((List.range gs.length).filter fun j => decide (many (2 * m) a (gs.getD j fun _ => 0) = k)).length = cnt1 m k a gs := by
  unfold cnt1
  conv => rhs; rw [← map_getD gs (fun _ => 0)]
  rw [List.filter_map, List.length_map]
  rfl
end Rl

set_option Elab.async false
set_option linter.all false
set_option maxRecDepth 100000
set_option maxHeartbeats 4000000
namespace Rl
open PySem L2
def top (i : Nat) : Stmt := PySem.Challenge.pw_riverloops_k09_how_many_rows.main.body.getD i (.Pass ⟨0, 0, 0, 0⟩)
abbrev s_is_length : Stmt := top 9
theorem sc_is_length : FnScope ["bridges"] ["bridges"] (defScope s_is_length) := ⟨rfl, rfl, rfl, by decide +kernel, rfl, by decide +kernel, by decide +kernel⟩
abbrev s_leads_back : Stmt := top 11
theorem sc_leads_back : FnScope ["some", "here", "there"] ["some", "here"] (defScope s_leads_back) := ⟨rfl, rfl, rfl, by decide +kernel, rfl, by decide +kernel, by decide +kernel⟩
abbrev s_all_lead_back : Stmt := top 10
theorem sc_all_lead_back : FnScope ["some", "here"] ["some"] (defScope s_all_lead_back) := ⟨rfl, rfl, rfl, by decide +kernel, rfl, by decide +kernel, by decide +kernel⟩
abbrev s_none_cross : Stmt := top 12
theorem sc_none_cross : FnScope ["some", "waiting", "here", "there"] ["some"] (defScope s_none_cross) := ⟨rfl, rfl, rfl, by decide +kernel, rfl, by decide +kernel, by decide +kernel⟩
abbrev s_is_arcs : Stmt := top 8
theorem sc_is_arcs : FnScope ["some"] ["some"] (defScope s_is_arcs) := ⟨rfl, rfl, rfl, by decide +kernel, rfl, by decide +kernel, by decide +kernel⟩
abbrev s_refuse_no_arcs : Stmt := top 13
theorem sc_refuse_no_arcs : FnScope ["some", "called"] ["some", "called"] (defScope s_refuse_no_arcs) := ⟨rfl, rfl, rfl, by decide +kernel, rfl, by decide +kernel, by decide +kernel⟩
abbrev s_refuse_no_rows : Stmt := top 14
theorem sc_refuse_no_rows : FnScope ["one", "other"] ["one", "other"] (defScope s_refuse_no_rows) := ⟨rfl, rfl, rfl, by decide +kernel, rfl, by decide +kernel, by decide +kernel⟩
abbrev s_refuse_unlike : Stmt := top 15
theorem sc_refuse_unlike : FnScope ["one", "other"] ["one", "other"] (defScope s_refuse_unlike) := ⟨rfl, rfl, rfl, by decide +kernel, rfl, by decide +kernel, by decide +kernel⟩
abbrev s_join_bridges : Stmt := top 16
theorem sc_join_bridges : FnScope ["arcs", "here", "there"] ["arcs", "here", "there"] (defScope s_join_bridges) := ⟨rfl, rfl, rfl, by decide +kernel, rfl, by decide +kernel, by decide +kernel⟩
abbrev s_arcs_of : Stmt := top 17
theorem sc_arcs_of : FnScope ["word", "arcs", "waiting", "here", "sign"] ["word"] (defScope s_arcs_of) := ⟨rfl, rfl, rfl, by decide +kernel, rfl, by decide +kernel, by decide +kernel⟩
abbrev s_refuse_no_number : Stmt := top 19
theorem sc_refuse_no_number : FnScope ["number", "least", "most", "called"] ["number", "least", "most", "called"] (defScope s_refuse_no_number) := ⟨rfl, rfl, rfl, by decide +kernel, rfl, by decide +kernel, by decide +kernel⟩
abbrev s_refuse_no_size : Stmt := top 20
theorem sc_refuse_no_size : FnScope ["size"] ["size"] (defScope s_refuse_no_size) := ⟨rfl, rfl, rfl, by decide +kernel, rfl, by decide +kernel, by decide +kernel⟩
abbrev s_all_ways : Stmt := top 21
theorem sc_all_ways : FnScope ["size", "ways", "opening", "row", "closing"] ["size"] (defScope s_all_ways) := ⟨rfl, rfl, rfl, by decide +kernel, rfl, by decide +kernel, by decide +kernel⟩
abbrev s_ways_with_opening : Stmt := top 22
theorem sc_ways_with_opening : FnScope ["ways", "opening", "closing"] ["ways", "opening", "closing"] (defScope s_ways_with_opening) := ⟨rfl, rfl, rfl, by decide +kernel, rfl, by decide +kernel, by decide +kernel⟩
abbrev s_many : Stmt := top 23
theorem sc_many : FnScope ["size"] ["size"] (defScope s_many) := ⟨rfl, rfl, rfl, by decide +kernel, rfl, by decide +kernel, by decide +kernel⟩
abbrev s_arcs_at : Stmt := top 24
theorem sc_arcs_at : FnScope ["size", "number", "ways", "opening", "closing", "rest", "signs", "ahead"] ["size", "number"] (defScope s_arcs_at) := ⟨rfl, rfl, rfl, by decide +kernel, rfl, by decide +kernel, by decide +kernel⟩
abbrev s_road_from : Stmt := top 28
theorem sc_road_from : FnScope ["first", "above", "below", "road", "here"] ["first", "above", "below"] (defScope s_road_from) := ⟨rfl, rfl, rfl, by decide +kernel, rfl, by decide +kernel, by decide +kernel⟩
abbrev s_roads : Stmt := top 27
theorem sc_roads : FnScope ["above", "below", "found", "met", "first", "road"] ["above", "below"] (defScope s_roads) := ⟨rfl, rfl, rfl, by decide +kernel, rfl, by decide +kernel, by decide +kernel⟩
abbrev s_many_roads : Stmt := top 29
theorem sc_many_roads : FnScope ["above", "below"] ["above", "below"] (defScope s_many_roads) := ⟨rfl, rfl, rfl, by decide +kernel, rfl, by decide +kernel, by decide +kernel⟩
abbrev s_rows_with : Stmt := top 30
theorem sc_rows_with : FnScope ["size", "roads", "rows", "pairs", "above", "below"] ["size", "roads"] (defScope s_rows_with) := ⟨rfl, rfl, rfl, by decide +kernel, rfl, by decide +kernel, by decide +kernel⟩
abbrev s_law_cell_at : Stmt := top 32
theorem sc_law_cell_at : FnScope ["script", "k"] ["script", "k"] (defScope s_law_cell_at) := ⟨rfl, rfl, rfl, by decide +kernel, rfl, by decide +kernel, by decide +kernel⟩
abbrev s_law_whole : Stmt := top 33
theorem sc_law_whole : FnScope ["found"] ["found"] (defScope s_law_whole) := ⟨rfl, rfl, rfl, by decide +kernel, rfl, by decide +kernel, by decide +kernel⟩
abbrev s_law_roads : Stmt := top 34
theorem sc_law_roads : FnScope ["above", "below", "found", "left", "road", "at"] ["above", "below"] (defScope s_law_roads) := ⟨rfl, rfl, rfl, by decide +kernel, rfl, by decide +kernel, by decide +kernel⟩
abbrev s_law_all : Stmt := top 35
theorem sc_law_all : FnScope ["size", "words", "k", "longer", "word", "depth", "found", "row", "ahead"] ["size"] (defScope s_law_all) := ⟨rfl, rfl, rfl, by decide +kernel, rfl, by decide +kernel, by decide +kernel⟩
abbrev s_law : Stmt := top 36
theorem sc_law : FnScope ["script", "size", "some", "wanted", "due", "above", "found"] ["script"] (defScope s_law) := ⟨rfl, rfl, rfl, by decide +kernel, rfl, by decide +kernel, by decide +kernel⟩
section
variable {P : Program} {w : World} {K : PySem.W.Frag} {mg : Str → Option Value} {base : Heap} {dV : Value} {f : Addr} {fd : FuncData}
def sp_is_length : Sp := fun vs H Q _ => ∃ i : Int, vs = [.int i] ∧ Q (.bl (isLenM i)) H
theorem ok_is_length (F : FunD K "is_length" "is_length" s_is_length dV f fd) {tM : Tok} (mMOST_ARCS : mg "MOST_ARCS" = some (.int 20 tM)) : FnOk P w K mg base CX0 1 f fd ["bridges"] sp_is_length := by
  refine F.ok (k := 0) sc_is_length (fun vs H Q E h => ?_) (fun cdv A outer s H vs Q E hr h => ?_)
  · obtain ⟨_, rfl, _⟩ := h; rfl
  obtain ⟨i, rfl, q⟩ := h
  have nd := sc_is_length.nd
  refine ⟨_, (pss_one (ps_ret (pe_and (pe_cmpR op_eq (pe_op op_mod (pv 0) pe_int) pe_int (nomark _)) (pe_and (pe_cmpR op_ge (pv 0) pe_int (nomark _)) (pe_one (pe_cmpR op_le (pv 0) (pe_op op_mul pe_int (pe_glob (v := .int 20) rfl mMOST_ARCS ⟨_, rfl⟩)) (nomark _))))))), ?_⟩
  unfold isLenM at q
  (repeat (first | refine ⟨_, rfl, ?_⟩ | refine ⟨_, _, rfl, rfl, ?_⟩ | refine ⟨rfl, ?_⟩ | refine ⟨_, _, rfl, .inl (by assumption), ?_⟩ | refine ⟨Or.inl ⟨by decide, by decide⟩, ?_⟩ | refine ⟨(by show (0 : Int) < _; decide), ?_⟩ | refine ⟨⟨by decide, by decide⟩, ?_⟩))
  refine ite2 (fun c => ?_) (fun c => ?_)
  · have c' : i % 2 = 0 := V.int.inj (of_decide_eq_true c)
    (repeat (first | refine ⟨_, rfl, ?_⟩ | refine ⟨_, _, rfl, rfl, ?_⟩ | refine ⟨rfl, ?_⟩ | refine ⟨_, _, rfl, .inl (by assumption), ?_⟩ | refine ⟨Or.inl ⟨by decide, by decide⟩, ?_⟩ | refine ⟨(by show (0 : Int) < _; decide), ?_⟩ | refine ⟨⟨by decide, by decide⟩, ?_⟩))
    refine ite2 (fun d => ?_) (fun d => ?_)
    · (repeat (first | refine ⟨_, rfl, ?_⟩ | refine ⟨_, _, rfl, rfl, ?_⟩ | refine ⟨rfl, ?_⟩ | refine ⟨_, _, rfl, .inl (by assumption), ?_⟩ | refine ⟨Or.inl ⟨by decide, by decide⟩, ?_⟩ | refine ⟨(by show (0 : Int) < _; decide), ?_⟩ | refine ⟨⟨by decide, by decide⟩, ?_⟩))
      exact toB q (by simp [c', of_decide_eq_true d])
    · exact toB q (by simp at d; simp [c']; omega)
  · exact toB q (by
      have c' : ¬ i % 2 = 0 := fun z => c (decide_eq_true (congrArg V.int z))
      simp [c'])

def sp_leads_back (K : PySem.W.Frag) : Sp := fun vs H Q _ => ∃ (a : Addr) (xs : List Int) (i : Int), vs = [.ref a, .int i] ∧ SqL K H a (xs.map V.int) ∧ 0 ≤ i ∧ i < xs.length ∧ Q (.bl (leadsBackM xs i)) H
theorem ok_leads_back (F : FunD K "leads_back" "leads_back" s_leads_back dV f fd) (mlen : mg "len" = none) : FnOk P w K mg base CX0 1 f fd ["some", "here"] (sp_leads_back K) := by
  refine F.ok (k := 0) sc_leads_back (fun vs H Q E h => ?_) (fun cdv A outer s H vs Q E hr h => ?_)
  · obtain ⟨_, _, _, rfl, _⟩ := h; rfl
  obtain ⟨a, xs, i, rfl, hS, h0, h1, q⟩ := h
  have nd := sc_leads_back.nd
  refine ⟨_, (pss_cons (ps_set (i := 2) nd rfl (Or.inl rfl) (pe_ix ix_list (pv 0) (pv 1) (fun _ _ => rfl)))
  (pss_cons (ps_if (PW.pt (pw_or (pt_cmpR op_lt (pv 2) pe_int (nomark _)) (pw_or1 (pt_cmpR op_ge (pv 2) (pe_callB call_len_seq rfl mlen PySem.boot_len (pa_cons (pv 0) pa_nil)) (nomark _))))) (pss_one (ps_ret pe_bl)) pss_nil)
  (pss_one (ps_ret (pe_and (pe_cmpR op_ne (pv 2) (pv 1) (nomark _)) (pe_one (pe_cmpR op_eq (pe_ix ix_list (pv 0) (pv 2) (fun _ _ => rfl)) (pv 1) (nomark _)))))))), ?_⟩
  obtain ⟨v, hv⟩ : ∃ v, xs[i.toNat]? = some v := ⟨_, List.getElem?_eq_getElem (by omega)⟩
  have gv : xs.getD i.toNat 0 = v := by rw [List.getD_eq_getElem?_getD, hv]; rfl
  unfold leadsBackM at q
  rw [gv] at q
  (repeat (first | refine ⟨_, rfl, ?_⟩ | refine ⟨_, _, rfl, rfl, ?_⟩ | refine ⟨rfl, ?_⟩ | refine ⟨_, _, rfl, .inl (by assumption), ?_⟩ | refine ⟨Or.inl ⟨by decide, by decide⟩, ?_⟩ | refine ⟨(by show (0 : Int) < _; decide), ?_⟩ | refine ⟨⟨by decide, by decide⟩, ?_⟩))
  refine ⟨_, _, _, _, rfl, rfl, hS, atI_int h0 hv, ?_⟩
  (repeat (first | refine ⟨_, rfl, ?_⟩ | refine ⟨_, _, rfl, rfl, ?_⟩ | refine ⟨rfl, ?_⟩ | refine ⟨_, _, rfl, .inl (by assumption), ?_⟩ | refine ⟨Or.inl ⟨by decide, by decide⟩, ?_⟩ | refine ⟨(by show (0 : Int) < _; decide), ?_⟩ | refine ⟨⟨by decide, by decide⟩, ?_⟩))
  refine ite2 (fun c => ?_) (fun c => ?_)
  · refine iteT ?_
    exact toB q (by have := of_decide_eq_true c; rw [decide_eq_false (by omega)]; rfl)
  have c1 : 0 ≤ v := by simp at c; exact c
  (repeat (first | refine ⟨_, rfl, ?_⟩ | refine ⟨_, _, rfl, rfl, ?_⟩ | refine ⟨rfl, ?_⟩ | refine ⟨_, _, rfl, .inl (by assumption), ?_⟩ | refine ⟨Or.inl ⟨by decide, by decide⟩, ?_⟩ | refine ⟨(by show (0 : Int) < _; decide), ?_⟩ | refine ⟨⟨by decide, by decide⟩, ?_⟩))
  refine ite2 (fun d => ?_) (fun d => ?_)
  · exact toB q (by simp at d; rw [decide_eq_false (show ¬ v < (xs.length : Int) by omega)]; simp)
  have d1 : v < xs.length := by simp at d; exact d
  obtain ⟨u, hu⟩ : ∃ u, xs[v.toNat]? = some u := ⟨_, List.getElem?_eq_getElem (by omega)⟩
  have gu : xs.getD v.toNat 0 = u := by rw [List.getD_eq_getElem?_getD, hu]; rfl
  rw [gu] at q
  (repeat (first | refine ⟨_, rfl, ?_⟩ | refine ⟨_, _, rfl, rfl, ?_⟩ | refine ⟨rfl, ?_⟩ | refine ⟨_, _, rfl, .inl (by assumption), ?_⟩ | refine ⟨Or.inl ⟨by decide, by decide⟩, ?_⟩ | refine ⟨(by show (0 : Int) < _; decide), ?_⟩ | refine ⟨⟨by decide, by decide⟩, ?_⟩))
  refine ite2 (fun e => ?_) (fun e => ?_)
  · have e1 : v ≠ i := fun z => by rw [z] at e; simp at e
    (repeat (first | refine ⟨_, rfl, ?_⟩ | refine ⟨_, _, rfl, rfl, ?_⟩ | refine ⟨rfl, ?_⟩ | refine ⟨_, _, rfl, .inl (by assumption), ?_⟩ | refine ⟨Or.inl ⟨by decide, by decide⟩, ?_⟩ | refine ⟨(by show (0 : Int) < _; decide), ?_⟩ | refine ⟨⟨by decide, by decide⟩, ?_⟩))
    refine ⟨_, _, _, _, rfl, rfl, hS, atI_int c1 hu, ?_⟩
    (repeat (first | refine ⟨_, rfl, ?_⟩ | refine ⟨_, _, rfl, rfl, ?_⟩ | refine ⟨rfl, ?_⟩ | refine ⟨_, _, rfl, .inl (by assumption), ?_⟩ | refine ⟨Or.inl ⟨by decide, by decide⟩, ?_⟩ | refine ⟨(by show (0 : Int) < _; decide), ?_⟩ | refine ⟨⟨by decide, by decide⟩, ?_⟩))
    exact toB q (by simp [c1, d1, e1])
  · have e1 : v = i := by
      simp at e; exact e
    exact toB q (by simp [e1])

def sp_all_lead_back (K : PySem.W.Frag) : Sp := fun vs H Q _ => ∃ (a : Addr) (xs : List Int), vs = [.ref a] ∧ SqL K H a (xs.map V.int) ∧ xs.length ≤ 1000 ∧ Q (.bl (allBackM xs)) H
theorem ok_all_lead_back (F : FunD K "all_lead_back" "all_lead_back" s_all_lead_back dV f fd) (c_leads_back : Fn P w K mg base CX0 "leads_back" ["some", "here"] [] 1 (sp_leads_back K)) (mlen : mg "len" = none) (mrange : mg "range" = none) : FnOk P w K mg base CX0 2 f fd ["some"] (sp_all_lead_back K) := by
  refine F.ok (k := 1) sc_all_lead_back (fun vs H Q E h => ?_) (fun cdv A outer s H vs Q E hr h => ?_)
  · obtain ⟨_, _, rfl, _⟩ := h; rfl
  obtain ⟨a, xs, rfl, hS, hz, q⟩ := h
  have nd := sc_all_lead_back.nd
  refine ⟨_, (pss_cons (ps_for PassesOwn.never rfl (pi_range1 rfl mrange (pa_cons (pe_callB call_len_seq rfl mlen PySem.boot_len (pa_cons (pv 0) pa_nil)) pa_nil)) (pg_name (i := 1) nd rfl (Or.inl rfl)) (pss_one (ps_if (pt_not (pt_val (pe_fn c_leads_back hr (by decide) rfl (pa_cons (pv 0) (pa_cons (pv 1) pa_nil))))) (pss_one (ps_ret pe_bl)) pss_nil)))
  (pss_one (ps_ret pe_bl))), ?_⟩
  have hl : (xs.map V.int).length = xs.length := List.length_map _
  (repeat (first | refine ⟨_, rfl, ?_⟩ | refine ⟨_, _, rfl, rfl, ?_⟩ | refine ⟨rfl, ?_⟩ | refine ⟨_, _, rfl, .inl (by assumption), ?_⟩ | refine ⟨Or.inl ⟨by decide, by decide⟩, ?_⟩ | refine ⟨(by show (0 : Int) < _; decide), ?_⟩ | refine ⟨⟨by decide, by decide⟩, ?_⟩))
  refine ⟨by omega, by omega, ?_⟩
  rw [Int.toNat_natCast]
  refine for_range (fun i σ H' => H' = H ∧ (∃ v, σ = [some (.ref a), v]) ∧ ∀ j, j < i → leadsBackM xs j = true) ⟨rfl, ⟨_, rfl⟩, fun j h => absurd h (Nat.not_lt_zero _)⟩ ?_ ?_
  · rintro i σ H' hi ⟨rfl, ⟨v, rfl⟩, hb⟩
    rw [hl] at hi
    have e0 : (0 : Int) + (i : Int) = i := by omega
    rw [e0]
    (repeat (first | refine ⟨_, rfl, ?_⟩ | refine ⟨_, _, rfl, rfl, ?_⟩ | refine ⟨rfl, ?_⟩ | refine ⟨_, _, rfl, .inl (by assumption), ?_⟩ | refine ⟨Or.inl ⟨by decide, by decide⟩, ?_⟩ | refine ⟨(by show (0 : Int) < _; decide), ?_⟩ | refine ⟨⟨by decide, by decide⟩, ?_⟩))
    refine ⟨a, xs, (i : Int), rfl, hS, by omega, by omega, ?_⟩
    (repeat (first | refine ⟨_, rfl, ?_⟩ | refine ⟨_, _, rfl, rfl, ?_⟩ | refine ⟨rfl, ?_⟩ | refine ⟨_, _, rfl, .inl (by assumption), ?_⟩ | refine ⟨Or.inl ⟨by decide, by decide⟩, ?_⟩ | refine ⟨(by show (0 : Int) < _; decide), ?_⟩ | refine ⟨⟨by decide, by decide⟩, ?_⟩))
    cases e : leadsBackM xs i with
    | false =>
      refine iteT ?_
      exact toB q (by
        cases e2 : allBackM xs with
        | false => rfl
        | true =>
          have := List.all_eq_true.mp e2 i (List.mem_range.mpr hi)
          rw [e] at this; cases this)
    | true =>
      refine iteF ?_
      refine ⟨rfl, ⟨_, rfl⟩, fun j hj => ?_⟩
      by_cases z : j = i
      · rw [z]; exact e
      · exact hb j (by omega)
  · rintro σ H' ⟨rfl, _, hb⟩
    rw [hl] at hb
    exact toB q (List.all_eq_true.mpr fun j hj => hb j (List.mem_range.mp hj))

def sp_none_cross (K : PySem.W.Frag) : Sp := fun vs H Q _ => ∃ (a : Addr) (n : Nat) (g : Nat → Nat), vs = [.ref a] ∧ SqL K H a ((tab n g).map V.int) ∧ n ≤ 1000 ∧ Pairs n g ∧ ∀ H', Same H H' → Q (.bl (noCrossM (tab n g))) H'
theorem ok_none_cross (F : FunD K "none_cross" "none_cross" s_none_cross dV f fd) (menumerate : mg "enumerate" = none) : FnOk P w K mg base CX0 1 f fd ["some"] (sp_none_cross K) := by
  refine F.ok (k := 0) sc_none_cross (fun vs H Q E h => ?_) (fun cdv A outer s H vs Q E hr h => ?_)
  · obtain ⟨_, _, _, rfl, _⟩ := h; rfl
  obtain ⟨a, n, g, rfl, hS, hz, hP, q⟩ := h
  have nd := sc_none_cross.nd
  refine ⟨_, (pss_cons (ps_set (i := 1) nd rfl (Or.inl rfl) (pe_lst pa_nil))
  (pss_cons (ps_for PassesOwn.never rfl (pi_enum rfl menumerate (pa_cons (pv 0) pa_nil)) (pg_tup rfl (pgs_cons (pg_name (i := 2) nd rfl (Or.inl rfl)) (pgs_cons (pg_name (i := 3) nd rfl (Or.inl rfl)) pgs_nil))) (pss_one (ps_if (pt_cmpR op_gt (pv 3) (pv 2) (nomark _)) (pss_one (ps_expr (pe_bm PySem.F.plainAttrs_list PySem.F.slot_list_append PySem.F.type_list_append mt_append (pv 1) (pa_cons (pv 2) pa_nil)))) (pss_one (ps_if (pt_cmpR op_ne (pe_bm0 PySem.F.plainAttrs_list PySem.F.slot_list_pop PySem.F.type_list_pop mt_pop (pv 1)) (pv 3) (nomark _)) (pss_one (ps_ret pe_bl)) pss_nil)))))
  (pss_one (ps_ret pe_bl)))), ?_⟩
  refine ⟨by decide, fun l hlN => ?_⟩
  have S0 : Same H (upd H l (.lst [])) := same_upd_new hlN _
  (repeat (first | refine ⟨_, rfl, ?_⟩ | refine ⟨_, _, rfl, rfl, ?_⟩ | refine ⟨rfl, ?_⟩ | refine ⟨_, _, rfl, .inl (by assumption), ?_⟩ | refine ⟨Or.inl ⟨by decide, by decide⟩, ?_⟩ | refine ⟨(by show (0 : Int) < _; decide), ?_⟩ | refine ⟨⟨by decide, by decide⟩, ?_⟩))
  refine ⟨⟨_, S0.seq hS⟩, ?_⟩
  refine for_enum (xs := (tab n g).map V.int) (fun i σ H' => Same H H' ∧ H' l = some (.lst ((opens g i).map fun j : Nat => V.int (j : Int))) ∧ (∃ u v, σ = [some (.ref a), some (.ref l), u, v]) ∧ ∀ t, t < i → g t < t → (opens g t).getLast? = some (g t)) ⟨S0, upd_same, ⟨_, _, rfl⟩, fun t h => absurd h (Nat.not_lt_zero _)⟩ (fun i σ H' _ h => h.1.seq hS) ?_ ?_
  · rintro i x σ H' p hx ⟨S1, hw, ⟨u, v, rfl⟩, hb⟩ hp
    have hi : i < n := by
      have := (List.getElem?_eq_some_iff.mp hx).1
      simpa [tab_length] using this
    have ex : x = .int (g i : Int) := by
      rw [List.getElem?_map, tab_get hi] at hx
      exact (Option.some.inj hx).symm
    subst ex
    have hw' : upd H' p (.tup [.int i, .int (g i : Int)]) l = some (.lst ((opens g i).map fun j : Nat => V.int (j : Int))) := by rw [upd_ne (ne_of_none hw hp)]; exact hw
    have S2 : Same H (upd H' p (.tup [.int i, .int (g i : Int)])) := S1.trans (same_upd_new hp _)
    refine ⟨p, _, rfl, SqT.of upd_same, rfl, _, _, rfl, _, _, rfl, rfl, ?_⟩
    (repeat (first | refine ⟨_, rfl, ?_⟩ | refine ⟨_, _, rfl, rfl, ?_⟩ | refine ⟨rfl, ?_⟩ | refine ⟨_, _, rfl, .inl (by assumption), ?_⟩ | refine ⟨Or.inl ⟨by decide, by decide⟩, ?_⟩ | refine ⟨(by show (0 : Int) < _; decide), ?_⟩ | refine ⟨⟨by decide, by decide⟩, ?_⟩))
    refine ite2 (fun c => ?_) (fun c => ?_)
    · have c' : i < g i := by have := of_decide_eq_true c; omega
      (repeat (first | refine ⟨_, rfl, ?_⟩ | refine ⟨_, _, rfl, rfl, ?_⟩ | refine ⟨rfl, ?_⟩ | refine ⟨_, _, rfl, .inl (by assumption), ?_⟩ | refine ⟨Or.inl ⟨by decide, by decide⟩, ?_⟩ | refine ⟨(by show (0 : Int) < _; decide), ?_⟩ | refine ⟨⟨by decide, by decide⟩, ?_⟩))
      refine ⟨.inl ⟨rfl, _, SqL.of hw'⟩, ?_⟩
      (repeat (first | refine ⟨_, rfl, ?_⟩ | refine ⟨_, _, rfl, rfl, ?_⟩ | refine ⟨rfl, ?_⟩ | refine ⟨_, _, rfl, .inl (by assumption), ?_⟩ | refine ⟨Or.inl ⟨by decide, by decide⟩, ?_⟩ | refine ⟨(by show (0 : Int) < _; decide), ?_⟩ | refine ⟨⟨by decide, by decide⟩, ?_⟩))
      refine ⟨l, _, _, rfl, rfl, hw', ?_, ?_⟩
      · rw [List.length_map]
        have : (opens g i).length ≤ i := by
          have := List.length_filter_le (fun j => decide (i ≤ g j)) (List.range i)
          rw [List.length_range] at this
          exact this
        exact small1000 (by omega)
      · refine ⟨S2.upd hlN _, ?_, ⟨_, _, rfl⟩, fun t ht hgt => ?_⟩
        · rw [upd_same, opens_push (fun j hj e => by rw [← e, hP.back j (by omega)]) c', List.map_append]
          rfl
        · by_cases z : t = i
          · subst z; omega
          · exact hb t (by omega) hgt
    · have c' : g i < i := by
        have h1 : ¬ (i : Int) < g i := fun z => c (decide_eq_true z)
        have h2 := hP.ne i hi
        omega
      obtain ⟨S, t, hSt⟩ := mem_last hP hi c'
      (repeat (first | refine ⟨_, rfl, ?_⟩ | refine ⟨_, _, rfl, rfl, ?_⟩ | refine ⟨rfl, ?_⟩ | refine ⟨_, _, rfl, .inl (by assumption), ?_⟩ | refine ⟨Or.inl ⟨by decide, by decide⟩, ?_⟩ | refine ⟨(by show (0 : Int) < _; decide), ?_⟩ | refine ⟨⟨by decide, by decide⟩, ?_⟩))
      refine ⟨.inl ⟨rfl, _, SqL.of hw'⟩, ?_⟩
      refine ⟨l, _, .int t, rfl, rfl, hw', ?_, ?_⟩
      · rw [hSt]; simp
      (repeat (first | refine ⟨_, rfl, ?_⟩ | refine ⟨_, _, rfl, rfl, ?_⟩ | refine ⟨rfl, ?_⟩ | refine ⟨_, _, rfl, .inl (by assumption), ?_⟩ | refine ⟨Or.inl ⟨by decide, by decide⟩, ?_⟩ | refine ⟨(by show (0 : Int) < _; decide), ?_⟩ | refine ⟨⟨by decide, by decide⟩, ?_⟩))
      refine ite2 (fun d => ?_) (fun d => ?_)
      · have d' : t ≠ g i := fun z => by rw [z] at d; simp at d
        exact toB (q _ (S2.upd hlN _)) (by
          cases e : noCrossM (tab n g) with
          | false => rfl
          | true => exact absurd (noCross_tab.mp e) (cross_found hP hi c' hSt d'))
      · have d' : t = g i := by
          by_cases z : t = g i
          · exact z
          · exfalso
            apply d
            simp
            omega
        have hlast : (opens g i).getLast? = some (g i) := by rw [hSt, d']; simp
        refine ⟨S2.upd hlN _, ?_, ⟨_, _, rfl⟩, fun t' ht hgt => ?_⟩
        · rw [upd_same, opens_pop (hP.iffk hi) c' hlast, List.map_dropLast]
        · by_cases z : t' = i
          · rw [z]; exact hlast
          · exact hb t' (by omega) hgt
  · rintro σ H' ⟨S1, hw, _, hb⟩
    rw [List.length_map, tab_length] at hb
    exact toB (q H' S1) (noCross_tab.mpr (no_cross_end hP hb))

def sp_is_arcs (K : PySem.W.Frag) : Sp := fun vs H Q _ => ∃ (a : Addr) (xs : List Int), vs = [.ref a] ∧ SqL K H a (xs.map V.int) ∧ xs.length ≤ 1000 ∧ ∀ H', Same H H' → Q (.bl (isArcsM xs)) H'
theorem ok_is_arcs (F : FunD K "is_arcs" "is_arcs" s_is_arcs dV f fd) (c_is_length : Fn P w K mg base CX0 "is_length" ["bridges"] [] 1 sp_is_length) (c_all_lead_back : Fn P w K mg base CX0 "all_lead_back" ["some"] [] 2 (sp_all_lead_back K)) (c_none_cross : Fn P w K mg base CX0 "none_cross" ["some"] [] 1 (sp_none_cross K)) (mlen : mg "len" = none) : FnOk P w K mg base CX0 3 f fd ["some"] (sp_is_arcs K) := by
  refine F.ok (k := 2) sc_is_arcs (fun vs H Q E h => ?_) (fun cdv A outer s H vs Q E hr h => ?_)
  · obtain ⟨_, _, rfl, _⟩ := h; rfl
  obtain ⟨a, xs, rfl, hS, hz, q⟩ := h
  have nd := sc_is_arcs.nd
  refine ⟨_, (pss_one (ps_ret (pe_and (pe_fn c_is_length hr (by decide) rfl (pa_cons (pe_callB call_len_seq rfl mlen PySem.boot_len (pa_cons (pv 0) pa_nil)) pa_nil)) (pe_and (pe_fn c_all_lead_back hr (by decide) rfl (pa_cons (pv 0) pa_nil)) (pe_one (pe_fn c_none_cross hr (by decide) rfl (pa_cons (pv 0) pa_nil))))))), ?_⟩
  have hl : (xs.map V.int).length = xs.length := List.length_map _
  have q' : ∀ H', Same H H' → Q (.bl (isLenM xs.length && (allBackM xs && noCrossM xs))) H' := q
  (repeat (first | refine ⟨_, rfl, ?_⟩ | refine ⟨_, _, rfl, rfl, ?_⟩ | refine ⟨rfl, ?_⟩ | refine ⟨_, _, rfl, .inl (by assumption), ?_⟩ | refine ⟨Or.inl ⟨by decide, by decide⟩, ?_⟩ | refine ⟨(by show (0 : Int) < _; decide), ?_⟩ | refine ⟨⟨by decide, by decide⟩, ?_⟩))
  rw [hl]
  cases e1 : isLenM xs.length with
  | false => rw [e1] at q'; exact iteF (q' H (Same.refl H))
  | true =>
    rw [e1] at q'
    refine iteT ?_
    (repeat (first | refine ⟨_, rfl, ?_⟩ | refine ⟨_, _, rfl, rfl, ?_⟩ | refine ⟨rfl, ?_⟩ | refine ⟨_, _, rfl, .inl (by assumption), ?_⟩ | refine ⟨Or.inl ⟨by decide, by decide⟩, ?_⟩ | refine ⟨(by show (0 : Int) < _; decide), ?_⟩ | refine ⟨⟨by decide, by decide⟩, ?_⟩))
    refine ⟨a, xs, rfl, hS, hz, ?_⟩
    (repeat (first | refine ⟨_, rfl, ?_⟩ | refine ⟨_, _, rfl, rfl, ?_⟩ | refine ⟨rfl, ?_⟩ | refine ⟨_, _, rfl, .inl (by assumption), ?_⟩ | refine ⟨Or.inl ⟨by decide, by decide⟩, ?_⟩ | refine ⟨(by show (0 : Int) < _; decide), ?_⟩ | refine ⟨⟨by decide, by decide⟩, ?_⟩))
    cases e2 : allBackM xs with
    | false => rw [e2] at q'; exact iteF (q' H (Same.refl H))
    | true =>
      rw [e2] at q'
      obtain ⟨g, eg, hP⟩ := allBack_of e2
      refine iteT ?_
      (repeat (first | refine ⟨_, rfl, ?_⟩ | refine ⟨_, _, rfl, rfl, ?_⟩ | refine ⟨rfl, ?_⟩ | refine ⟨_, _, rfl, .inl (by assumption), ?_⟩ | refine ⟨Or.inl ⟨by decide, by decide⟩, ?_⟩ | refine ⟨(by show (0 : Int) < _; decide), ?_⟩ | refine ⟨⟨by decide, by decide⟩, ?_⟩))
      refine ⟨a, xs.length, g, rfl, by rw [← eg]; exact hS, hz, hP, fun H' S' => ?_⟩
      rw [← eg]
      exact q' H' S'

def sp_refuse_no_arcs (K : PySem.W.Frag) : Sp := fun vs H Q _ => ∃ (a : Addr) (xs : List Int) (c : Str), vs = [.ref a, .str c] ∧ SqL K H a (xs.map V.int) ∧ isArcsM xs = true ∧ ∀ H', Same H H' → Q .non H'
theorem ok_refuse_no_arcs (F : FunD K "refuse_no_arcs" "refuse_no_arcs" s_refuse_no_arcs dV f fd) (c_is_arcs : Fn P w K mg base CX0 "is_arcs" ["some"] [] 3 (sp_is_arcs K)) : FnOk P w K mg base CX0 4 f fd ["some", "called"] (sp_refuse_no_arcs K) := by
  refine F.ok (k := 3) sc_refuse_no_arcs (fun vs H Q E h => ?_) (fun cdv A outer s H vs Q E hr h => ?_)
  · obtain ⟨_, _, _, rfl, _⟩ := h; rfl
  obtain ⟨a, xs, c, rfl, hS, hA, q⟩ := h
  have nd := sc_refuse_no_arcs.nd
  refine ⟨_, (pss_one (ps_if (pt_not (pt_val (pe_fn c_is_arcs hr (by decide) rfl (pa_cons (pv 0) pa_nil)))) pss_never pss_nil)), ?_⟩
  have hz : xs.length ≤ 1000 := by obtain ⟨_, _, _, _, _, h⟩ := isArcs_of hA; omega
  (repeat (first | refine ⟨_, rfl, ?_⟩ | refine ⟨_, _, rfl, rfl, ?_⟩ | refine ⟨rfl, ?_⟩ | refine ⟨_, _, rfl, .inl (by assumption), ?_⟩ | refine ⟨Or.inl ⟨by decide, by decide⟩, ?_⟩ | refine ⟨(by show (0 : Int) < _; decide), ?_⟩ | refine ⟨⟨by decide, by decide⟩, ?_⟩))
  refine ⟨a, xs, rfl, hS, hz, fun H' S' => ?_⟩
  (repeat (first | refine ⟨_, rfl, ?_⟩ | refine ⟨_, _, rfl, rfl, ?_⟩ | refine ⟨rfl, ?_⟩ | refine ⟨_, _, rfl, .inl (by assumption), ?_⟩ | refine ⟨Or.inl ⟨by decide, by decide⟩, ?_⟩ | refine ⟨(by show (0 : Int) < _; decide), ?_⟩ | refine ⟨⟨by decide, by decide⟩, ?_⟩))
  rw [hA]
  exact iteF (q H' S')

def sp_refuse_no_rows (K : PySem.W.Frag) : Sp := fun vs H Q _ => ∃ (a b : Addr) (xs ys : List Int), vs = [.ref a, .ref b] ∧ SqL K H a (xs.map V.int) ∧ SqL K H b (ys.map V.int) ∧ isArcsM xs = true ∧ isArcsM ys = true ∧ ∀ H', Same H H' → Q .non H'
theorem ok_refuse_no_rows (F : FunD K "refuse_no_rows" "refuse_no_rows" s_refuse_no_rows dV f fd) (cc_refuse_no_arcs : Fn P w K mg base CX0 "refuse_no_arcs" ["some", "called"] [] 4 (sp_refuse_no_arcs K)) : FnOk P w K mg base CX0 5 f fd ["one", "other"] (sp_refuse_no_rows K) := by
  refine F.ok (k := 4) sc_refuse_no_rows (fun vs H Q E h => ?_) (fun cdv A outer s H vs Q E hr h => ?_)
  · obtain ⟨_, _, _, _, rfl, _⟩ := h; rfl
  obtain ⟨a, b, xs, ys, rfl, hA, hB, hx, hy, q⟩ := h
  have nd := sc_refuse_no_rows.nd
  refine ⟨_, (pss_cons (ps_expr (pe_fn cc_refuse_no_arcs hr (by decide) rfl (pa_cons (pv 0) (pa_cons pe_str pa_nil))))
  (pss_one (ps_expr (pe_fn cc_refuse_no_arcs hr (by decide) rfl (pa_cons (pv 1) (pa_cons pe_str pa_nil)))))), ?_⟩
  (repeat (first | refine ⟨_, rfl, ?_⟩ | refine ⟨_, _, rfl, rfl, ?_⟩ | refine ⟨rfl, ?_⟩ | refine ⟨_, _, rfl, .inl (by assumption), ?_⟩ | refine ⟨Or.inl ⟨by decide, by decide⟩, ?_⟩ | refine ⟨(by show (0 : Int) < _; decide), ?_⟩ | refine ⟨⟨by decide, by decide⟩, ?_⟩))
  refine ⟨a, xs, _, rfl, hA, hx, fun H1 S1 => ?_⟩
  (repeat (first | refine ⟨_, rfl, ?_⟩ | refine ⟨_, _, rfl, rfl, ?_⟩ | refine ⟨rfl, ?_⟩ | refine ⟨_, _, rfl, .inl (by assumption), ?_⟩ | refine ⟨Or.inl ⟨by decide, by decide⟩, ?_⟩ | refine ⟨(by show (0 : Int) < _; decide), ?_⟩ | refine ⟨⟨by decide, by decide⟩, ?_⟩))
  exact ⟨b, ys, _, rfl, S1.seq hB, hy, fun H2 S2 => q H2 (S1.trans S2)⟩

def sp_refuse_unlike (K : PySem.W.Frag) : Sp := fun vs H Q _ => ∃ (a b : Addr) (xs ys : List Int), vs = [.ref a, .ref b] ∧ SqL K H a (xs.map V.int) ∧ SqL K H b (ys.map V.int) ∧ isArcsM xs = true ∧ isArcsM ys = true ∧ xs.length = ys.length ∧ ∀ H', Same H H' → Q .non H'
theorem ok_refuse_unlike (F : FunD K "refuse_unlike" "refuse_unlike" s_refuse_unlike dV f fd) (c_refuse_no_rows : Fn P w K mg base CX0 "refuse_no_rows" ["one", "other"] [] 5 (sp_refuse_no_rows K)) (mlen : mg "len" = none) : FnOk P w K mg base CX0 6 f fd ["one", "other"] (sp_refuse_unlike K) := by
  refine F.ok (k := 5) sc_refuse_unlike (fun vs H Q E h => ?_) (fun cdv A outer s H vs Q E hr h => ?_)
  · obtain ⟨_, _, _, _, rfl, _⟩ := h; rfl
  obtain ⟨a, b, xs, ys, rfl, hA, hB, hx, hy, hl, q⟩ := h
  have nd := sc_refuse_unlike.nd
  refine ⟨_, (pss_cons (ps_expr (pe_fn c_refuse_no_rows hr (by decide) rfl (pa_cons (pv 0) (pa_cons (pv 1) pa_nil))))
  (pss_one (ps_if (pt_cmpR op_ne (pe_callB call_len_seq rfl mlen PySem.boot_len (pa_cons (pv 0) pa_nil)) (pe_callB call_len_seq rfl mlen PySem.boot_len (pa_cons (pv 1) pa_nil)) (nomark _)) pss_never pss_nil))), ?_⟩
  (repeat (first | refine ⟨_, rfl, ?_⟩ | refine ⟨_, _, rfl, rfl, ?_⟩ | refine ⟨rfl, ?_⟩ | refine ⟨_, _, rfl, .inl (by assumption), ?_⟩ | refine ⟨Or.inl ⟨by decide, by decide⟩, ?_⟩ | refine ⟨(by show (0 : Int) < _; decide), ?_⟩ | refine ⟨⟨by decide, by decide⟩, ?_⟩))
  refine ⟨a, b, xs, ys, rfl, hA, hB, hx, hy, fun H1 S1 => ?_⟩
  have hA1 := S1.seq hA
  have hB1 := S1.seq hB
  (repeat (first | refine ⟨_, rfl, ?_⟩ | refine ⟨_, _, rfl, rfl, ?_⟩ | refine ⟨rfl, ?_⟩ | refine ⟨_, _, rfl, .inl (by assumption), ?_⟩ | refine ⟨Or.inl ⟨by decide, by decide⟩, ?_⟩ | refine ⟨(by show (0 : Int) < _; decide), ?_⟩ | refine ⟨⟨by decide, by decide⟩, ?_⟩))
  refine ite2 (fun y => ?_) (fun _ => ?_)
  · exfalso
    rw [List.length_map, List.length_map, hl] at y
    simp at y
  · exact q H1 S1

def sp_join_bridges : Sp := fun vs H Q _ => ∃ (a : Addr) (xs : List V) (i j : Nat), vs = [.ref a, .int i, .int j] ∧ H a = some (.lst xs) ∧ i < xs.length ∧ j < xs.length ∧ Q .non (upd (upd H a (.lst (xs.set i (.int j)))) a (.lst ((xs.set i (.int j)).set j (.int i))))
theorem ok_join_bridges (F : FunD K "join_bridges" "join_bridges" s_join_bridges dV f fd) : FnOk P w K mg base CX0 1 f fd ["arcs", "here", "there"] sp_join_bridges := by
  refine F.ok (k := 0) sc_join_bridges (fun vs H Q E h => ?_) (fun cdv A outer s H vs Q E hr h => ?_)
  · obtain ⟨_, _, _, _, rfl, _⟩ := h; rfl
  obtain ⟨a, xs, i, j, rfl, hA, hi, hj, q⟩ := h
  have nd := sc_join_bridges.nd
  refine ⟨_, (pss_cons (ps_asg (pv 2) (pg_sub (pv 0) (pv 1) set_list))
  (pss_one (ps_asg (pv 1) (pg_sub (pv 0) (pv 2) set_list)))), ?_⟩
  (repeat (first | refine ⟨_, rfl, ?_⟩ | refine ⟨_, _, rfl, rfl, ?_⟩ | refine ⟨rfl, ?_⟩ | refine ⟨_, _, rfl, .inl (by assumption), ?_⟩ | refine ⟨Or.inl ⟨by decide, by decide⟩, ?_⟩ | refine ⟨(by show (0 : Int) < _; decide), ?_⟩ | refine ⟨⟨by decide, by decide⟩, ?_⟩))
  refine ⟨a, _, _, i, rfl, rfl, hA, ixN_nat hi, ?_⟩
  (repeat (first | refine ⟨_, rfl, ?_⟩ | refine ⟨_, _, rfl, rfl, ?_⟩ | refine ⟨rfl, ?_⟩ | refine ⟨_, _, rfl, .inl (by assumption), ?_⟩ | refine ⟨Or.inl ⟨by decide, by decide⟩, ?_⟩ | refine ⟨(by show (0 : Int) < _; decide), ?_⟩ | refine ⟨⟨by decide, by decide⟩, ?_⟩))
  exact ⟨a, _, _, j, rfl, rfl, upd_same, ixN_nat (by rw [List.length_set]; exact hj), q⟩

def sp_arcs_of : Sp := fun vs H Q _ => ∃ (z : Str) (n : Nat) (g : Nat → Nat), vs = [.str z] ∧ z.cps.toList = word n g ∧ IsArcs n g ∧ n % 2 = 0 ∧ 2 ≤ n ∧ n ≤ 40 ∧
  ∀ (r : Addr) (H' : Hp), Same H H' → H r = none → H' r = some (.lst ((tab n g).map V.int)) → Q (.ref r) H'
theorem ok_arcs_of (F : FunD K "arcs_of" "arcs_of" s_arcs_of dV f fd) (c_is_length : Fn P w K mg base CX0 "is_length" ["bridges"] [] 1 sp_is_length) (c_join_bridges : Fn P w K mg base CX0 "join_bridges" ["arcs", "here", "there"] [] 1 sp_join_bridges) (mlen : mg "len" = none) (menumerate : mg "enumerate" = none) : FnOk P w K mg base CX0 2 f fd ["word"] sp_arcs_of := by
  refine F.ok (k := 1) sc_arcs_of (fun vs H Q E h => ?_) (fun cdv A outer s H vs Q E hr h => ?_)
  · obtain ⟨_, _, _, rfl, _⟩ := h; rfl
  obtain ⟨z, n, g, rfl, hz, hA, h2, h0, h1, q⟩ := h
  have nd := sc_arcs_of.nd
  refine ⟨_, (pss_cons (ps_if (pt_not (pt_val (pe_fn c_is_length hr (by decide) rfl (pa_cons (pe_callB call_len_str rfl mlen PySem.boot_len (pa_cons (pv 0) pa_nil)) pa_nil)))) pss_never pss_nil)
  (pss_cons (ps_comp (i := 1) nd rfl rfl rfl (compOk (N' := ["sign"]) (js := [none]) (N := ["word", "arcs", "waiting", "here", "sign"]) (sc := defScope s_arcs_of) rfl rfl rfl (by decide +kernel) (by decide +kernel) (by decide +kernel) rfl (by decide +kernel)) rfl (pi_str (pv 0)) (fun _ _ _ _ _ => (pg_name (i := 0) (show [("sign" : PySem.Str)].Nodup by decide +kernel) rfl (Or.inl rfl))) (fun _ _ _ _ _ => pf_nil) (fun _ _ _ _ _ => pe_int))
  (pss_cons (ps_set (i := 2) nd rfl (Or.inl rfl) (pe_lst pa_nil))
  (pss_cons (ps_for PassesOwn.never rfl (pi_enumS rfl menumerate (pa_cons (pv 0) pa_nil)) (pg_tup rfl (pgs_cons (pg_name (i := 3) nd rfl (Or.inl rfl)) (pgs_cons (pg_name (i := 4) nd rfl (Or.inl rfl)) pgs_nil))) (pss_one (ps_if (pt_cmpR op_eq (pv 4) pe_str (nomark _)) (pss_one (ps_expr (pe_bm PySem.F.plainAttrs_list PySem.F.slot_list_append PySem.F.type_list_append mt_append (pv 2) (pa_cons (pv 3) pa_nil)))) (pss_one (ps_if (PW.pt (pw_and (pt_cmpR op_eq (pv 4) pe_str (nomark _)) (pw_and1 (pt_cmpR op_gt (pe_callB call_len_seq rfl mlen PySem.boot_len (pa_cons (pv 2) pa_nil)) pe_int (nomark _))))) (pss_one (ps_expr (pe_fn c_join_bridges hr (by decide) rfl (pa_cons (pv 1) (pa_cons (pe_bm0 PySem.F.plainAttrs_list PySem.F.slot_list_pop PySem.F.type_list_pop mt_pop (pv 2)) (pa_cons (pv 3) pa_nil)))))) pss_never)))))
  (pss_cons (ps_if (pt_cmpR op_gt (pe_callB call_len_seq rfl mlen PySem.boot_len (pa_cons (pv 2) pa_nil)) pe_int (nomark _)) pss_never pss_nil)
  (pss_one (ps_ret (pv 1)))))))), ?_⟩
  have hsz : z.cps.size = n := by
    have := congrArg List.length hz
    rw [word_length] at this
    simpa using this
  have hlen : z.length = n := hsz
  (repeat (first | refine ⟨_, rfl, ?_⟩ | refine ⟨_, _, rfl, rfl, ?_⟩ | refine ⟨rfl, ?_⟩ | refine ⟨_, _, rfl, .inl (by assumption), ?_⟩ | refine ⟨Or.inl ⟨by decide, by decide⟩, ?_⟩ | refine ⟨(by show (0 : Int) < _; decide), ?_⟩ | refine ⟨⟨by decide, by decide⟩, ?_⟩))
  refine ⟨small60 (by omega), ?_⟩
  (repeat (first | refine ⟨_, rfl, ?_⟩ | refine ⟨_, _, rfl, rfl, ?_⟩ | refine ⟨rfl, ?_⟩ | refine ⟨_, _, rfl, .inl (by assumption), ?_⟩ | refine ⟨Or.inl ⟨by decide, by decide⟩, ?_⟩ | refine ⟨(by show (0 : Int) < _; decide), ?_⟩ | refine ⟨⟨by decide, by decide⟩, ?_⟩))
  have hL : isLenM (z.length : Int) = true := by rw [hlen]; unfold isLenM; simp; omega
  rw [hL]
  (try refine iteF ?_)
  (repeat (first | refine ⟨_, rfl, ?_⟩ | refine ⟨_, _, rfl, rfl, ?_⟩ | refine ⟨rfl, ?_⟩ | refine ⟨_, _, rfl, .inl (by assumption), ?_⟩ | refine ⟨Or.inl ⟨by decide, by decide⟩, ?_⟩ | refine ⟨(by show (0 : Int) < _; decide), ?_⟩ | refine ⟨⟨by decide, by decide⟩, ?_⟩))
  intro l hl
  refine comp_all (J := Its z) n (fun _ => .int 0) (fun σ => ∃ u, σ = [u]) (small60 (by omega)) ⟨_, rfl⟩ hl (fun i H' hi _ => by show i < z.cps.size; omega) (fun H' _ => hsz.symm) ?_ ?_
  · rintro i x σ' H' H2 k hi ⟨u, rfl⟩ S' ⟨rfl, c, hc, rfl⟩ hk
    exact hk _ _ _ ⟨_, rfl⟩ rfl (Same.refl _)
  intro H1 S1 hl1
  have e0 : (List.range n).map (fun _ => V.int 0) = (tab n (part g 0)).map V.int := by
    rw [part_zero, ← tab_zero, List.map_replicate]
    exact List.eq_replicate_iff.mpr ⟨by simp, by simp⟩
  rw [e0] at hl1
  refine ⟨by decide, fun p hp => ?_⟩
  have S2 : Same H (upd H1 p (.lst [])) := S1.trans (same_upd_new hp _)
  have hp' : H p = none := S1.free hp
  have npl : l ≠ p := ne_of_none hl1 hp
  (repeat (first | refine ⟨_, rfl, ?_⟩ | refine ⟨_, _, rfl, rfl, ?_⟩ | refine ⟨rfl, ?_⟩ | refine ⟨_, _, rfl, .inl (by assumption), ?_⟩ | refine ⟨Or.inl ⟨by decide, by decide⟩, ?_⟩ | refine ⟨(by show (0 : Int) < _; decide), ?_⟩ | refine ⟨⟨by decide, by decide⟩, ?_⟩))
  refine for_enumS (fun i σ H' => Same H H' ∧ H' l = some (.lst ((tab n (part g i)).map V.int)) ∧ H' p = some (.lst ((opens g i).map fun j : Nat => V.int (j : Int))) ∧ ∃ u v, σ = [some (.str z), some (.ref l), some (.ref p), u, v]) ?_ ?_ ?_
  · exact ⟨S2, by rw [upd_ne npl]; exact hl1, upd_same, _, _, rfl⟩
  · rintro i c σ H' r hc ⟨S3, hf, hw, u, v, rfl⟩ hr'
    have hi : i < n := by
      have := (Array.getElem?_eq_some_iff.mp hc).1
      omega
    have ec : c = if i < g i then 40 else 41 := by
      have h3 : z.cps.toList[i]? = some c := by rw [Array.getElem?_toList]; exact hc
      rw [hz, word_get hi] at h3
      exact (Option.some.inj h3).symm
    have S4 : Same H' (upd H' r (.tup [.int i, .str ⟨#[c]⟩])) := same_upd_new hr' _
    have hf' := S4 _ _ hf
    have hw' := S4 _ _ hw
    have hwS : SqL K (upd H' r (.tup [.int i, .str ⟨#[c]⟩])) p ((opens g i).map fun j : Nat => V.int (j : Int)) := SqL.of hw'
    have hol : (opens g i).length ≤ i := by
      have := List.length_filter_le (fun j => decide (i ≤ g j)) (List.range i)
      rw [List.length_range] at this
      exact this
    refine ⟨r, _, rfl, SqT.of upd_same, rfl, _, _, rfl, _, _, rfl, rfl, ?_⟩
    by_cases hd : i < g i
    · have ec' : c = 40 := by rw [ec, if_pos hd]
      subst ec'
      (repeat (first | refine ⟨_, rfl, ?_⟩ | refine ⟨_, _, rfl, rfl, ?_⟩ | refine ⟨rfl, ?_⟩ | refine ⟨_, _, rfl, .inl (by assumption), ?_⟩ | refine ⟨Or.inl ⟨by decide, by decide⟩, ?_⟩ | refine ⟨(by show (0 : Int) < _; decide), ?_⟩ | refine ⟨⟨by decide, by decide⟩, ?_⟩))
      (try refine ite2 (fun _ => ?_) (fun y => absurd (by decide +kernel) y))
      (repeat (first | refine ⟨_, rfl, ?_⟩ | refine ⟨_, _, rfl, rfl, ?_⟩ | refine ⟨rfl, ?_⟩ | refine ⟨_, _, rfl, .inl (by assumption), ?_⟩ | refine ⟨Or.inl ⟨by decide, by decide⟩, ?_⟩ | refine ⟨(by show (0 : Int) < _; decide), ?_⟩ | refine ⟨⟨by decide, by decide⟩, ?_⟩))
      refine ⟨.inl ⟨rfl, _, hwS⟩, ?_⟩
      (repeat (first | refine ⟨_, rfl, ?_⟩ | refine ⟨_, _, rfl, rfl, ?_⟩ | refine ⟨rfl, ?_⟩ | refine ⟨_, _, rfl, .inl (by assumption), ?_⟩ | refine ⟨Or.inl ⟨by decide, by decide⟩, ?_⟩ | refine ⟨(by show (0 : Int) < _; decide), ?_⟩ | refine ⟨⟨by decide, by decide⟩, ?_⟩))
      refine ⟨p, _, _, rfl, rfl, hw', by rw [List.length_map]; exact small1000 (by omega), ?_⟩
      refine ⟨(S3.trans S4).upd hp' _, by rw [upd_ne npl, hf', part_push hA.pairs hi hd], ?_, _, _, rfl⟩
      rw [upd_same, opens_push (fun j hj e => by rw [← e, hA.back j (by omega)]) hd, List.map_append]
      rfl
    · have hd' : g i < i := by have := hA.ne i hi; omega
      have ec' : c = 41 := by rw [ec, if_neg hd]
      subst ec'
      have hlast := opens_last hA hi hd'
      obtain ⟨S, hS⟩ := List.getLast?_eq_some_iff.mp hlast
      (repeat (first | refine ⟨_, rfl, ?_⟩ | refine ⟨_, _, rfl, rfl, ?_⟩ | refine ⟨rfl, ?_⟩ | refine ⟨_, _, rfl, .inl (by assumption), ?_⟩ | refine ⟨Or.inl ⟨by decide, by decide⟩, ?_⟩ | refine ⟨(by show (0 : Int) < _; decide), ?_⟩ | refine ⟨⟨by decide, by decide⟩, ?_⟩))
      (try refine ite2 (fun y => absurd y (by decide +kernel)) (fun _ => ?_))
      (repeat (first | refine ⟨_, rfl, ?_⟩ | refine ⟨_, _, rfl, rfl, ?_⟩ | refine ⟨rfl, ?_⟩ | refine ⟨_, _, rfl, .inl (by assumption), ?_⟩ | refine ⟨Or.inl ⟨by decide, by decide⟩, ?_⟩ | refine ⟨(by show (0 : Int) < _; decide), ?_⟩ | refine ⟨⟨by decide, by decide⟩, ?_⟩))
      (try refine ite2 (fun _ => ?_) (fun y => absurd (by decide +kernel) y))
      (repeat (first | refine ⟨_, rfl, ?_⟩ | refine ⟨_, _, rfl, rfl, ?_⟩ | refine ⟨rfl, ?_⟩ | refine ⟨_, _, rfl, .inl (by assumption), ?_⟩ | refine ⟨Or.inl ⟨by decide, by decide⟩, ?_⟩ | refine ⟨(by show (0 : Int) < _; decide), ?_⟩ | refine ⟨⟨by decide, by decide⟩, ?_⟩))
      refine ite2 (fun _ => ?_) (fun y => ?_)
      · (repeat (first | refine ⟨_, rfl, ?_⟩ | refine ⟨_, _, rfl, rfl, ?_⟩ | refine ⟨rfl, ?_⟩ | refine ⟨_, _, rfl, .inl (by assumption), ?_⟩ | refine ⟨Or.inl ⟨by decide, by decide⟩, ?_⟩ | refine ⟨(by show (0 : Int) < _; decide), ?_⟩ | refine ⟨⟨by decide, by decide⟩, ?_⟩))
        refine ⟨.inl ⟨rfl, _, hwS⟩, ?_⟩
        refine ⟨p, _, .int (g i : Int), rfl, rfl, hw', by rw [hS]; simp, ?_⟩
        (repeat (first | refine ⟨_, rfl, ?_⟩ | refine ⟨_, _, rfl, rfl, ?_⟩ | refine ⟨rfl, ?_⟩ | refine ⟨_, _, rfl, .inl (by assumption), ?_⟩ | refine ⟨Or.inl ⟨by decide, by decide⟩, ?_⟩ | refine ⟨(by show (0 : Int) < _; decide), ?_⟩ | refine ⟨⟨by decide, by decide⟩, ?_⟩))
        refine ⟨l, _, g i, i, rfl, (by rw [upd_ne npl]; exact hf'), by rw [List.length_map, tab_length]; omega, by rw [List.length_map, tab_length]; omega, ?_⟩
        refine ⟨(((S3.trans S4).upd hp' _).upd hl _).upd hl _, ?_, ?_, _, _, rfl⟩
        · rw [upd_same, part_pop hA.pairs hi hd', ← tab_set (show i < n by omega), ← tab_set (show g i < n by omega), List.map_set, List.map_set]
        · rw [upd_ne (Ne.symm npl), upd_ne (Ne.symm npl), upd_same, opens_pop (hA.pairs.iffk hi) hd' hlast, List.map_dropLast]
      · exfalso
        apply y
        rw [hS]
        simp
        try omega
  · rintro σ H' ⟨S3, hf, hw, u, v, rfl⟩
    rw [hsz] at hf hw
    rw [opens_end hA] at hw
    have hwS : SqL K H' p [] := SqL.of hw
    (repeat (first | refine ⟨_, rfl, ?_⟩ | refine ⟨_, _, rfl, rfl, ?_⟩ | refine ⟨rfl, ?_⟩ | refine ⟨_, _, rfl, .inl (by assumption), ?_⟩ | refine ⟨Or.inl ⟨by decide, by decide⟩, ?_⟩ | refine ⟨(by show (0 : Int) < _; decide), ?_⟩ | refine ⟨⟨by decide, by decide⟩, ?_⟩))
    (try refine iteF ?_)
    (repeat (first | refine ⟨_, rfl, ?_⟩ | refine ⟨_, _, rfl, rfl, ?_⟩ | refine ⟨rfl, ?_⟩ | refine ⟨_, _, rfl, .inl (by assumption), ?_⟩ | refine ⟨Or.inl ⟨by decide, by decide⟩, ?_⟩ | refine ⟨(by show (0 : Int) < _; decide), ?_⟩ | refine ⟨⟨by decide, by decide⟩, ?_⟩))
    rw [part_end hA.pairs] at hf
    exact q l H' S3 hl hf

def sp_refuse_no_number : Sp := fun vs H Q _ => ∃ (n lo hi : Int) (c : Str), vs = [.int n, .int lo, .int hi, .str c] ∧ lo ≤ n ∧ n ≤ hi ∧ Q .non H
theorem ok_refuse_no_number (F : FunD K "refuse_no_number" "refuse_no_number" s_refuse_no_number dV f fd) : FnOk P w K mg base CX0 1 f fd ["number", "least", "most", "called"] sp_refuse_no_number := by
  refine F.ok (k := 0) sc_refuse_no_number (fun vs H Q E h => ?_) (fun cdv A outer s H vs Q E hr h => ?_)
  · obtain ⟨_, _, _, _, rfl, _⟩ := h; rfl
  obtain ⟨n, lo, hi, c, rfl, h1, h2, q⟩ := h
  have nd := sc_refuse_no_number.nd
  refine ⟨_, (pss_one (ps_if (PW.pt (pw_or (pt_cmpR op_lt (pv 0) (pv 1) (nomark _)) (pw_or1 (pt_cmpR op_gt (pv 0) (pv 2) (nomark _))))) pss_never pss_nil)), ?_⟩
  (repeat (first | refine ⟨_, rfl, ?_⟩ | refine ⟨_, _, rfl, rfl, ?_⟩ | refine ⟨rfl, ?_⟩ | refine ⟨_, _, rfl, .inl (by assumption), ?_⟩ | refine ⟨Or.inl ⟨by decide, by decide⟩, ?_⟩ | refine ⟨(by show (0 : Int) < _; decide), ?_⟩ | refine ⟨⟨by decide, by decide⟩, ?_⟩))
  refine ite2 (fun y => absurd (of_decide_eq_true y) (by omega)) (fun _ => ?_)
  (repeat (first | refine ⟨_, rfl, ?_⟩ | refine ⟨_, _, rfl, rfl, ?_⟩ | refine ⟨rfl, ?_⟩ | refine ⟨_, _, rfl, .inl (by assumption), ?_⟩ | refine ⟨Or.inl ⟨by decide, by decide⟩, ?_⟩ | refine ⟨(by show (0 : Int) < _; decide), ?_⟩ | refine ⟨⟨by decide, by decide⟩, ?_⟩))
  refine ite2 (fun y => absurd (of_decide_eq_true y) (by omega)) (fun _ => ?_)
  exact q

def sp_refuse_no_size : Sp := fun vs H Q _ => ∃ (n : Int), vs = [.int n] ∧ 1 ≤ n ∧ n ≤ 20 ∧ Q .non H
theorem ok_refuse_no_size (F : FunD K "refuse_no_size" "refuse_no_size" s_refuse_no_size dV f fd) (c_refuse_no_number : Fn P w K mg base CX0 "refuse_no_number" ["number", "least", "most", "called"] [] 1 sp_refuse_no_number) {tM : Tok} (mMOST_ARCS : mg "MOST_ARCS" = some (.int 20 tM)) : FnOk P w K mg base CX0 2 f fd ["size"] sp_refuse_no_size := by
  refine F.ok (k := 1) sc_refuse_no_size (fun vs H Q E h => ?_) (fun cdv A outer s H vs Q E hr h => ?_)
  · obtain ⟨_, rfl, _⟩ := h; rfl
  obtain ⟨n, rfl, h1, h2, q⟩ := h
  have nd := sc_refuse_no_size.nd
  refine ⟨_, (pss_one (ps_expr (pe_fn c_refuse_no_number hr (by decide) rfl (pa_cons (pv 0) (pa_cons pe_int (pa_cons (pe_glob (v := .int 20) rfl mMOST_ARCS ⟨_, rfl⟩) (pa_cons pe_str pa_nil))))))), ?_⟩
  (repeat (first | refine ⟨_, rfl, ?_⟩ | refine ⟨_, _, rfl, rfl, ?_⟩ | refine ⟨rfl, ?_⟩ | refine ⟨_, _, rfl, .inl (by assumption), ?_⟩ | refine ⟨Or.inl ⟨by decide, by decide⟩, ?_⟩ | refine ⟨(by show (0 : Int) < _; decide), ?_⟩ | refine ⟨⟨by decide, by decide⟩, ?_⟩))
  exact ⟨n, 1, 20, _, rfl, h1, h2, q⟩

def sp_all_ways : Sp := fun vs H Q _ => ∃ (m : Nat), vs = [.int m] ∧ m ≤ 20 ∧ ∀ (r : Addr) (H' : Hp), Same H H' → WaysAt H' r m → Q (.ref r) H'
theorem ok_all_ways (F : FunD K "all_ways" "all_ways" s_all_ways dV f fd) (mrange : mg "range" = none) : FnOk P w K mg base CX0 1 f fd ["size"] sp_all_ways := by
  refine F.ok (k := 0) sc_all_ways (fun vs H Q E h => ?_) (fun cdv A outer s H vs Q E hr h => ?_)
  · obtain ⟨_, rfl, _⟩ := h; rfl
  obtain ⟨m, rfl, h2, q⟩ := h
  have nd := sc_all_ways.nd
  refine ⟨_, (pss_cons (ps_set (i := 1) nd rfl (Or.inl rfl) (pe_lst (pa_cons (pe_comp (compOk (N' := ["closing"]) (js := [none]) (N := ["size", "ways", "opening", "row", "closing"]) (sc := defScope s_all_ways) rfl rfl rfl (by decide +kernel) (by decide +kernel) (by decide +kernel) rfl (by decide +kernel)) rfl (pi_range1 rfl mrange (pa_cons (pe_op op_add (pv 0) pe_int) pa_nil)) (fun _ _ _ _ _ => (pg_name (i := 0) (show [("closing" : PySem.Str)].Nodup by decide +kernel) rfl (Or.inl rfl))) (fun _ _ _ _ _ => pf_nil) (fun _ _ _ _ _ => pe_int)) pa_nil)))
  (pss_cons (ps_for PassesOwn.never rfl (pi_range2 rfl mrange (pa_cons pe_int (pa_cons (pe_op op_add (pv 0) pe_int) pa_nil))) (pg_name (i := 2) nd rfl (Or.inl rfl)) (pss_cons (ps_comp (i := 3) nd rfl rfl rfl (compOk (N' := ["closing"]) (js := [none]) (N := ["size", "ways", "opening", "row", "closing"]) (sc := defScope s_all_ways) rfl rfl rfl (by decide +kernel) (by decide +kernel) (by decide +kernel) rfl (by decide +kernel)) rfl (pi_range1 rfl mrange (pa_cons (pv 2) pa_nil)) (fun _ _ _ _ _ => (pg_name (i := 0) (show [("closing" : PySem.Str)].Nodup by decide +kernel) rfl (Or.inl rfl))) (fun _ _ _ _ _ => pf_nil) (fun _ _ _ _ _ => pe_int))
  (pss_cons (ps_for PassesOwn.never rfl (pi_range2 rfl mrange (pa_cons (pv 2) (pa_cons (pe_op op_add (pv 0) pe_int) pa_nil))) (pg_name (i := 4) nd rfl (Or.inl rfl)) (pss_one (ps_expr (pe_bm PySem.F.plainAttrs_list PySem.F.slot_list_append PySem.F.type_list_append mt_append (pv 3) (pa_cons (pe_op op_add (pe_ix ix_list (pe_ix ix_list (pv 1) (pe_op op_sub (pv 2) pe_int) (fun _ _ => rfl)) (pv 4) (fun _ _ => rfl)) (pe_ix ix_list (pv 3) (pe_op op_sub (pv 4) pe_int) (fun _ _ => rfl))) pa_nil)))))
  (pss_one (ps_expr (pe_bm PySem.F.plainAttrs_list PySem.F.slot_list_append PySem.F.type_list_append mt_append (pv 1) (pa_cons (pv 3) pa_nil)))))))
  (pss_one (ps_ret (pv 1))))), ?_⟩
  have e1 : ((m : Int) + 1).toNat = m + 1 := by omega
  (repeat (first | refine ⟨_, rfl, ?_⟩ | refine ⟨_, _, rfl, rfl, ?_⟩ | refine ⟨rfl, ?_⟩ | refine ⟨_, _, rfl, .inl (by assumption), ?_⟩ | refine ⟨Or.inl ⟨by decide, by decide⟩, ?_⟩ | refine ⟨(by show (0 : Int) < _; decide), ?_⟩ | refine ⟨⟨by decide, by decide⟩, ?_⟩))
  refine ⟨by omega, by omega, fun p hp => ?_⟩
  dsimp only
  rw [e1]
  refine comp_all (m + 1) (fun i => .int (W 0 i : Nat)) (fun σ => ∃ u, σ = [u]) (small60 (by omega)) ⟨_, rfl⟩ hp (fun i H' hi _ => hi) (fun H' _ => Nat.le_refl _) ?_ ?_
  · rintro i x σ' H' H2 k hi ⟨u, rfl⟩ S' ⟨rfl, rfl⟩ hk
    exact hk _ _ _ ⟨_, rfl⟩ rfl (Same.refl _)
  intro H1 S1 e0'
  have e0 : H1 p = some (.lst ((tab (m + 1) (W 0)).map V.int)) := by
    rw [e0']
    unfold tab
    rw [List.map_map]
    rfl
  (repeat (first | refine ⟨_, rfl, ?_⟩ | refine ⟨_, _, rfl, rfl, ?_⟩ | refine ⟨rfl, ?_⟩ | refine ⟨_, _, rfl, .inl (by assumption), ?_⟩ | refine ⟨Or.inl ⟨by decide, by decide⟩, ?_⟩ | refine ⟨(by show (0 : Int) < _; decide), ?_⟩ | refine ⟨⟨by decide, by decide⟩, ?_⟩))
  refine ⟨(by show 1 ≤ sizeLine; decide), fun lw hlw => ?_⟩
  have S2 := same_upd_new hlw (.lst [.ref p])
  have zlw : H lw = none := S1.free hlw
  have npw : p ≠ lw := ne_of_none e0 hlw
  (repeat (first | refine ⟨_, rfl, ?_⟩ | refine ⟨_, _, rfl, rfl, ?_⟩ | refine ⟨rfl, ?_⟩ | refine ⟨_, _, rfl, .inl (by assumption), ?_⟩ | refine ⟨Or.inl ⟨by decide, by decide⟩, ?_⟩ | refine ⟨(by show (0 : Int) < _; decide), ?_⟩ | refine ⟨⟨by decide, by decide⟩, ?_⟩))
  refine ⟨_, _, rfl, ⟨by omega, by omega, by omega, by omega⟩, ?_⟩
  have e3 : ((m : Int) + 1 - 1).toNat = m := by omega
  rw [e3]
  refine for_range (fun i σ H' => ∃ as : List Addr, Same H H' ∧ H' lw = some (.lst (as.map V.ref)) ∧ as.length = i + 1 ∧ lw ∉ as ∧ (∀ (o : Nat) (x : Addr), as[o]? = some x → H' x = some (.lst ((tab (m + 1) (W o)).map V.int))) ∧ ∃ u v x, σ = [some (.int m), some (.ref lw), u, v, x]) ?_ ?_ ?_
  · refine ⟨[p], S1.trans S2, upd_same, rfl, by simp [Ne.symm npw], fun o x hx => ?_, _, _, _, rfl⟩
    match o, hx with
    | 0, hx => cases hx; rw [upd_ne npw]; exact e0
    | o + 1, hx => simp at hx
  · rintro i σ H3 hi ⟨as, S3, ew, la, nw, hrow, u, v, y, rfl⟩
    (repeat (first | refine ⟨_, rfl, ?_⟩ | refine ⟨_, _, rfl, rfl, ?_⟩ | refine ⟨rfl, ?_⟩ | refine ⟨_, _, rfl, .inl (by assumption), ?_⟩ | refine ⟨Or.inl ⟨by decide, by decide⟩, ?_⟩ | refine ⟨(by show (0 : Int) < _; decide), ?_⟩ | refine ⟨⟨by decide, by decide⟩, ?_⟩))
    refine ⟨by omega, by omega, fun lr hlr => ?_⟩
    have e4 : ((1 : Int) + (i : Int)).toNat = i + 1 := by omega
    dsimp only
    rw [e4]
    refine comp_all (i + 1) (fun c => .int (W (i + 1) c : Nat)) (fun σ => ∃ u, σ = [u]) (small60 (by omega)) ⟨_, rfl⟩ hlr (fun i H' hi _ => hi) (fun H' _ => Nat.le_refl _) ?_ ?_
    · rintro c x σ' H' H2 k hc ⟨u, rfl⟩ S' ⟨rfl, rfl⟩ hk
      exact hk _ _ _ ⟨_, rfl⟩ (by rw [W_low hc]; rfl) (Same.refl _)
    intro H4 S4 el'
    have el : H4 lr = some (.lst ((tab (i + 1) (W (i + 1))).map V.int)) := by
      rw [el']
      unfold tab
      rw [List.map_map]
      rfl
    have zlr : H lr = none := S3.free hlr
    have nwr : lw ≠ lr := ne_of_none ew hlr
    have nar : lr ∉ as := fun z => by
      obtain ⟨o, ho⟩ := List.getElem?_of_mem z
      have := hrow o lr ho
      rw [hlr] at this
      cases this
    (repeat (first | refine ⟨_, rfl, ?_⟩ | refine ⟨_, _, rfl, rfl, ?_⟩ | refine ⟨rfl, ?_⟩ | refine ⟨_, _, rfl, .inl (by assumption), ?_⟩ | refine ⟨Or.inl ⟨by decide, by decide⟩, ?_⟩ | refine ⟨(by show (0 : Int) < _; decide), ?_⟩ | refine ⟨⟨by decide, by decide⟩, ?_⟩))
    refine ⟨_, _, rfl, ⟨by omega, by omega, by omega, by omega⟩, ?_⟩
    have e5 : ((m : Int) + 1 - (1 + (i : Int))).toNat = m - i := by omega
    rw [e5]
    refine for_range (fun t σ H' => Same H H' ∧ H' lw = some (.lst (as.map V.ref)) ∧ H' lr = some (.lst ((tab (i + 1 + t) (W (i + 1))).map V.int)) ∧ (∀ (o : Nat) (x : Addr), as[o]? = some x → H' x = some (.lst ((tab (m + 1) (W o)).map V.int))) ∧ ∃ x, σ = [some (.int m), some (.ref lw), some (.int (1 + (i : Int))), some (.ref lr), x]) ?_ ?_ ?_
    · exact ⟨S3.trans S4, S4 _ _ ew, el, fun o x hx => S4 _ _ (hrow o x hx), _, rfl⟩
    · rintro t σ H5 ht ⟨S5, ew5, el5, hrow5, x, rfl⟩
      obtain ⟨ai, hai⟩ : ∃ ai, as[i]? = some ai := ⟨_, List.getElem?_eq_getElem (by omega)⟩
      (repeat (first | refine ⟨_, rfl, ?_⟩ | refine ⟨_, _, rfl, rfl, ?_⟩ | refine ⟨rfl, ?_⟩ | refine ⟨_, _, rfl, .inl (by assumption), ?_⟩ | refine ⟨Or.inl ⟨by decide, by decide⟩, ?_⟩ | refine ⟨(by show (0 : Int) < _; decide), ?_⟩ | refine ⟨⟨by decide, by decide⟩, ?_⟩))
      refine ⟨.inl ⟨rfl, _, SqL.of el5⟩, ?_⟩
      (repeat (first | refine ⟨_, rfl, ?_⟩ | refine ⟨_, _, rfl, rfl, ?_⟩ | refine ⟨rfl, ?_⟩ | refine ⟨_, _, rfl, .inl (by assumption), ?_⟩ | refine ⟨Or.inl ⟨by decide, by decide⟩, ?_⟩ | refine ⟨(by show (0 : Int) < _; decide), ?_⟩ | refine ⟨⟨by decide, by decide⟩, ?_⟩))
      have e6 : (1 : Int) + (i : Int) - 1 = (i : Int) := by omega
      have e7 : (1 : Int) + (i : Int) + (t : Int) = ((i + 1 + t : Nat) : Int) := by omega
      have e8 : (1 : Int) + (i : Int) + (t : Int) - 1 = ((i + t : Nat) : Int) := by omega
      refine ⟨lw, _, _, .ref ai, rfl, rfl, SqL.of ew5, (by (try dsimp only); rw [e6]; exact atI_nat (by rw [List.getElem?_map, hai]; rfl)), ?_⟩
      (repeat (first | refine ⟨_, rfl, ?_⟩ | refine ⟨_, _, rfl, rfl, ?_⟩ | refine ⟨rfl, ?_⟩ | refine ⟨_, _, rfl, .inl (by assumption), ?_⟩ | refine ⟨Or.inl ⟨by decide, by decide⟩, ?_⟩ | refine ⟨(by show (0 : Int) < _; decide), ?_⟩ | refine ⟨⟨by decide, by decide⟩, ?_⟩))
      refine ⟨ai, _, _, .int (W i (i + 1 + t) : Nat), rfl, rfl, SqL.of (hrow5 i ai hai), (by (try dsimp only); rw [e7]; exact atI_int (by omega) (by rw [Int.toNat_natCast]; exact tab_get (by omega))), ?_⟩
      (repeat (first | refine ⟨_, rfl, ?_⟩ | refine ⟨_, _, rfl, rfl, ?_⟩ | refine ⟨rfl, ?_⟩ | refine ⟨_, _, rfl, .inl (by assumption), ?_⟩ | refine ⟨Or.inl ⟨by decide, by decide⟩, ?_⟩ | refine ⟨(by show (0 : Int) < _; decide), ?_⟩ | refine ⟨⟨by decide, by decide⟩, ?_⟩))
      refine ⟨lr, _, _, .int (W (i + 1) (i + t) : Nat), rfl, rfl, SqL.of el5, (by (try dsimp only); rw [e8]; exact atI_int (by omega) (by rw [Int.toNat_natCast]; exact tab_get (by omega))), ?_⟩
      (repeat (first | refine ⟨_, rfl, ?_⟩ | refine ⟨_, _, rfl, rfl, ?_⟩ | refine ⟨rfl, ?_⟩ | refine ⟨_, _, rfl, .inl (by assumption), ?_⟩ | refine ⟨Or.inl ⟨by decide, by decide⟩, ?_⟩ | refine ⟨(by show (0 : Int) < _; decide), ?_⟩ | refine ⟨⟨by decide, by decide⟩, ?_⟩))
      refine ⟨lr, _, _, rfl, rfl, el5, by rw [List.length_map, tab_length]; exact small1000 (by omega), ?_⟩
      refine ⟨S5.upd zlr _, by rw [upd_ne nwr]; exact ew5, ?_, fun o x hx => ?_, _, rfl⟩
      · rw [upd_same]
        have es : (W i (i + 1 + t) : Nat) + (W (i + 1) (i + t) : Nat) = W (i + 1) (i + t + 1) := by
          rw [W_step, if_neg (by omega), show i + 1 + t = i + t + 1 by omega]
        have es2 : ((W i (i + 1 + t) : Nat) : Int) + ((W (i + 1) (i + t) : Nat) : Int) = ((W (i + 1) (i + t + 1) : Nat) : Int) := by omega
        dsimp only
        rw [es2, show i + 1 + (t + 1) = (i + t + 1) + 1 by omega, show i + 1 + t = i + t + 1 by omega]
        unfold tab
        rw [List.range_succ (n := i + t + 1), List.map_append, List.map_append]
        rfl
      · have : x ≠ lr := fun z => nar (z ▸ List.mem_of_getElem? hx)
        rw [upd_ne this]
        exact hrow5 o x hx
    · rintro σ H5 ⟨S5, ew5, el5, hrow5, x, rfl⟩
      rw [show i + 1 + (m - i) = m + 1 by omega] at el5
      (repeat (first | refine ⟨_, rfl, ?_⟩ | refine ⟨_, _, rfl, rfl, ?_⟩ | refine ⟨rfl, ?_⟩ | refine ⟨_, _, rfl, .inl (by assumption), ?_⟩ | refine ⟨Or.inl ⟨by decide, by decide⟩, ?_⟩ | refine ⟨(by show (0 : Int) < _; decide), ?_⟩ | refine ⟨⟨by decide, by decide⟩, ?_⟩))
      refine ⟨.inl ⟨rfl, _, SqL.of ew5⟩, ?_⟩
      (repeat (first | refine ⟨_, rfl, ?_⟩ | refine ⟨_, _, rfl, rfl, ?_⟩ | refine ⟨rfl, ?_⟩ | refine ⟨_, _, rfl, .inl (by assumption), ?_⟩ | refine ⟨Or.inl ⟨by decide, by decide⟩, ?_⟩ | refine ⟨(by show (0 : Int) < _; decide), ?_⟩ | refine ⟨⟨by decide, by decide⟩, ?_⟩))
      refine ⟨lw, _, _, rfl, rfl, ew5, by rw [List.length_map]; exact small1000 (by omega), ?_⟩
      refine ⟨as ++ [lr], S5.upd zlw _, by rw [upd_same, List.map_append]; rfl, by simp [la], by simp [nw, nwr], fun o x hx => ?_, _, _, _, rfl⟩
      by_cases c : o < as.length
      · rw [List.getElem?_append_left c] at hx
        have : x ≠ lw := fun z => nw (z ▸ List.mem_of_getElem? hx)
        rw [upd_ne this]
        exact hrow5 o x hx
      · rw [List.getElem?_append_right (by omega)] at hx
        have c0 : o = i + 1 := by
          have := (List.getElem?_eq_some_iff.mp hx).1
          simp at this
          omega
        subst c0
        rw [la, Nat.sub_self] at hx
        cases hx
        rw [upd_ne (Ne.symm nwr)]
        exact el5
  · rintro σ H3 ⟨as, S3, ew, la, nw, hrow, u, v, y, rfl⟩
    (repeat (first | refine ⟨_, rfl, ?_⟩ | refine ⟨_, _, rfl, rfl, ?_⟩ | refine ⟨rfl, ?_⟩ | refine ⟨_, _, rfl, .inl (by assumption), ?_⟩ | refine ⟨Or.inl ⟨by decide, by decide⟩, ?_⟩ | refine ⟨(by show (0 : Int) < _; decide), ?_⟩ | refine ⟨⟨by decide, by decide⟩, ?_⟩))
    exact q lw H3 S3 ⟨as, ew, la, hrow⟩

def sp_ways_with_opening : Sp := fun vs H Q _ => ∃ (r : Addr) (m o c : Nat), vs = [.ref r, .int o, .int c] ∧ WaysAt H r m ∧ o ≤ m ∧ c ≤ m ∧ Q (.int (ah o c : Nat)) H
theorem ok_ways_with_opening (F : FunD K "ways_with_opening" "ways_with_opening" s_ways_with_opening dV f fd) : FnOk P w K mg base CX0 1 f fd ["ways", "opening", "closing"] sp_ways_with_opening := by
  refine F.ok (k := 0) sc_ways_with_opening (fun vs H Q E h => ?_) (fun cdv A outer s H vs Q E hr h => ?_)
  · obtain ⟨_, _, _, _, rfl, _⟩ := h; rfl
  obtain ⟨r, m, o, c, rfl, ⟨as, hw, la, hrow⟩, ho, hc, q⟩ := h
  have nd := sc_ways_with_opening.nd
  refine ⟨_, (pss_one (ps_ret (pe_ifExp (pt_cmpR op_gt (pv 1) pe_int (nomark _)) (pe_ix ix_list (pe_ix ix_list (pv 0) (pe_op op_sub (pv 1) pe_int) (fun _ _ => rfl)) (pv 2) (fun _ _ => rfl)) pe_int))), ?_⟩
  (repeat (first | refine ⟨_, rfl, ?_⟩ | refine ⟨_, _, rfl, rfl, ?_⟩ | refine ⟨rfl, ?_⟩ | refine ⟨_, _, rfl, .inl (by assumption), ?_⟩ | refine ⟨Or.inl ⟨by decide, by decide⟩, ?_⟩ | refine ⟨(by show (0 : Int) < _; decide), ?_⟩ | refine ⟨⟨by decide, by decide⟩, ?_⟩))
  refine ite2 (fun y => ?_) (fun y => ?_)
  · have y' : 0 < o := by have := of_decide_eq_true y; omega
    have e6 : (o : Int) - 1 = ((o - 1 : Nat) : Int) := by omega
    obtain ⟨ai, hai⟩ : ∃ ai, as[o - 1]? = some ai := ⟨_, List.getElem?_eq_getElem (by omega)⟩
    (repeat (first | refine ⟨_, rfl, ?_⟩ | refine ⟨_, _, rfl, rfl, ?_⟩ | refine ⟨rfl, ?_⟩ | refine ⟨_, _, rfl, .inl (by assumption), ?_⟩ | refine ⟨Or.inl ⟨by decide, by decide⟩, ?_⟩ | refine ⟨(by show (0 : Int) < _; decide), ?_⟩ | refine ⟨⟨by decide, by decide⟩, ?_⟩))
    refine ⟨r, _, _, .ref ai, rfl, rfl, SqL.of hw, (by (try dsimp only); rw [e6]; exact atI_nat (by rw [List.getElem?_map, hai]; rfl)), ?_⟩
    (repeat (first | refine ⟨_, rfl, ?_⟩ | refine ⟨_, _, rfl, rfl, ?_⟩ | refine ⟨rfl, ?_⟩ | refine ⟨_, _, rfl, .inl (by assumption), ?_⟩ | refine ⟨Or.inl ⟨by decide, by decide⟩, ?_⟩ | refine ⟨(by show (0 : Int) < _; decide), ?_⟩ | refine ⟨⟨by decide, by decide⟩, ?_⟩))
    refine ⟨ai, _, _, .int (W (o - 1) c : Nat), rfl, rfl, SqL.of (hrow _ ai hai), atI_int (by omega) (by rw [Int.toNat_natCast]; exact tab_get (by omega)), ?_⟩
    refine toI q ?_
    unfold ah
    rw [if_pos y']
  · have y' : ¬ 0 < o := fun z => y (decide_eq_true (by omega))
    (repeat (first | refine ⟨_, rfl, ?_⟩ | refine ⟨_, _, rfl, rfl, ?_⟩ | refine ⟨rfl, ?_⟩ | refine ⟨_, _, rfl, .inl (by assumption), ?_⟩ | refine ⟨Or.inl ⟨by decide, by decide⟩, ?_⟩ | refine ⟨(by show (0 : Int) < _; decide), ?_⟩ | refine ⟨⟨by decide, by decide⟩, ?_⟩))
    refine toI q ?_
    unfold ah
    rw [if_neg y']
    rfl

def sp_many : Sp := fun vs H Q _ => ∃ (m : Nat), vs = [.int m] ∧ 1 ≤ m ∧ m ≤ 20 ∧ ∀ (H' : Hp), Same H H' → Q (.int (W m m : Nat)) H'
theorem ok_many (F : FunD K "many" "many" s_many dV f fd) (c_refuse_no_size : Fn P w K mg base CX0 "refuse_no_size" ["size"] [] 2 sp_refuse_no_size) (c_all_ways : Fn P w K mg base CX0 "all_ways" ["size"] [] 1 sp_all_ways) : FnOk P w K mg base CX0 3 f fd ["size"] sp_many := by
  refine F.ok (k := 2) sc_many (fun vs H Q E h => ?_) (fun cdv A outer s H vs Q E hr h => ?_)
  · obtain ⟨_, rfl, _⟩ := h; rfl
  obtain ⟨m, rfl, h1, h2, q⟩ := h
  have nd := sc_many.nd
  refine ⟨_, (pss_cons (ps_expr (pe_fn c_refuse_no_size hr (by decide) rfl (pa_cons (pv 0) pa_nil)))
  (pss_one (ps_ret (pe_ix ix_list (pe_ix ix_list (pe_fn c_all_ways hr (by decide) rfl (pa_cons (pv 0) pa_nil)) (pv 0) (fun _ _ => rfl)) (pv 0) (fun _ _ => rfl))))), ?_⟩
  (repeat (first | refine ⟨_, rfl, ?_⟩ | refine ⟨_, _, rfl, rfl, ?_⟩ | refine ⟨rfl, ?_⟩ | refine ⟨_, _, rfl, .inl (by assumption), ?_⟩ | refine ⟨Or.inl ⟨by decide, by decide⟩, ?_⟩ | refine ⟨(by show (0 : Int) < _; decide), ?_⟩ | refine ⟨⟨by decide, by decide⟩, ?_⟩))
  refine ⟨by omega, by omega, ?_⟩
  (repeat (first | refine ⟨_, rfl, ?_⟩ | refine ⟨_, _, rfl, rfl, ?_⟩ | refine ⟨rfl, ?_⟩ | refine ⟨_, _, rfl, .inl (by assumption), ?_⟩ | refine ⟨Or.inl ⟨by decide, by decide⟩, ?_⟩ | refine ⟨(by show (0 : Int) < _; decide), ?_⟩ | refine ⟨⟨by decide, by decide⟩, ?_⟩))
  refine ⟨by omega, fun r H1 S1 hW => ?_⟩
  obtain ⟨as, hw, la, hrow⟩ := hW
  obtain ⟨ai, hai⟩ : ∃ ai, as[m]? = some ai := ⟨_, List.getElem?_eq_getElem (by omega)⟩
  (repeat (first | refine ⟨_, rfl, ?_⟩ | refine ⟨_, _, rfl, rfl, ?_⟩ | refine ⟨rfl, ?_⟩ | refine ⟨_, _, rfl, .inl (by assumption), ?_⟩ | refine ⟨Or.inl ⟨by decide, by decide⟩, ?_⟩ | refine ⟨(by show (0 : Int) < _; decide), ?_⟩ | refine ⟨⟨by decide, by decide⟩, ?_⟩))
  refine ⟨r, _, _, .ref ai, rfl, rfl, SqL.of hw, atI_nat (by rw [List.getElem?_map, hai]; rfl), ?_⟩
  (repeat (first | refine ⟨_, rfl, ?_⟩ | refine ⟨_, _, rfl, rfl, ?_⟩ | refine ⟨rfl, ?_⟩ | refine ⟨_, _, rfl, .inl (by assumption), ?_⟩ | refine ⟨Or.inl ⟨by decide, by decide⟩, ?_⟩ | refine ⟨(by show (0 : Int) < _; decide), ?_⟩ | refine ⟨⟨by decide, by decide⟩, ?_⟩))
  refine ⟨ai, _, _, .int (W m m : Nat), rfl, rfl, SqL.of (hrow _ ai hai), atI_int (by omega) (by rw [Int.toNat_natCast]; exact tab_get (by omega)), ?_⟩
  exact q H1 S1

def sp_arcs_at : Sp := fun vs H Q _ => ∃ (m r : Nat), vs = [.int m, .int r] ∧ 1 ≤ m ∧ m ≤ 20 ∧ r < W m m ∧ ∀ (l : Addr) (H' : Hp) (g : Nat → Nat), Same H H' → H l = none → IsArcs (2 * m) g → word (2 * m) g = un (2 * m) m m r → H' l = some (.lst ((tab (2 * m) g).map V.int)) → Q (.ref l) H'
theorem ok_arcs_at (F : FunD K "arcs_at" "arcs_at" s_arcs_at dV f fd) (c_refuse_no_number : Fn P w K mg base CX0 "refuse_no_number" ["number", "least", "most", "called"] [] 1 sp_refuse_no_number) (c_many : Fn P w K mg base CX0 "many" ["size"] [] 3 sp_many) (c_all_ways : Fn P w K mg base CX0 "all_ways" ["size"] [] 1 sp_all_ways) (c_ways_with_opening : Fn P w K mg base CX0 "ways_with_opening" ["ways", "opening", "closing"] [] 1 sp_ways_with_opening) (c_arcs_of : Fn P w K mg base CX0 "arcs_of" ["word"] [] 2 sp_arcs_of) : FnOk P w K mg base CX0 4 f fd ["size", "number"] sp_arcs_at := by
  refine F.ok (k := 3) sc_arcs_at (fun vs H Q E h => ?_) (fun cdv A outer s H vs Q E hr h => ?_)
  · obtain ⟨_, _, rfl, _⟩ := h; rfl
  obtain ⟨m, r, rfl, h1, h2, hr', q⟩ := h
  have nd := sc_arcs_at.nd
  refine ⟨_, (pss_cons (ps_expr (pe_fn c_refuse_no_number hr (by decide) rfl (pa_cons (pv 1) (pa_cons pe_int (pa_cons (pe_op op_sub (pe_fn c_many hr (by decide) rfl (pa_cons (pv 0) pa_nil)) pe_int) (pa_cons pe_str pa_nil))))))
  (pss_cons (ps_set (i := 2) nd rfl (Or.inl rfl) (pe_fn c_all_ways hr (by decide) rfl (pa_cons (pv 0) pa_nil)))
  (pss_cons (ps_set (i := 3) nd rfl (Or.inl rfl) (pv 0))
  (pss_cons (ps_set (i := 4) nd rfl (Or.inl rfl) (pv 0))
  (pss_cons (ps_set (i := 5) nd rfl (Or.inl rfl) (pv 1))
  (pss_cons (ps_set (i := 6) nd rfl (Or.inl rfl) (pe_lst pa_nil))
  (pss_cons (ps_while PassesOwn.never (pt_cmpR op_gt (pv 4) pe_int (nomark _)) (pss_cons (ps_set (i := 7) nd rfl (Or.inl rfl) (pe_fn c_ways_with_opening hr (by decide) rfl (pa_cons (pv 2) (pa_cons (pv 3) (pa_cons (pv 4) pa_nil)))))
  (pss_one (ps_if (pt_cmpR op_lt (pv 5) (pv 7) (nomark _)) (pss_cons (ps_expr (pe_bm PySem.F.plainAttrs_list PySem.F.slot_list_append PySem.F.type_list_append mt_append (pv 6) (pa_cons pe_str pa_nil)))
  (pss_one (ps_aug (i := 3) nd rfl (Or.inl rfl) pe_int ip_sub))) (pss_cons (ps_expr (pe_bm PySem.F.plainAttrs_list PySem.F.slot_list_append PySem.F.type_list_append mt_append (pv 6) (pa_cons pe_str pa_nil)))
  (pss_cons (ps_aug (i := 4) nd rfl (Or.inl rfl) pe_int ip_sub)
  (pss_one (ps_aug (i := 5) nd rfl (Or.inl rfl) (pv 7) ip_sub))))))))
  (pss_one (ps_ret (pe_fn c_arcs_of hr (by decide) rfl (pa_cons (pe_bm PySem.F.plainAttrs_str PySem.F.slot_str_join PySem.F.type_str_join mt_join pe_str (pa_cons (pv 6) pa_nil)) pa_nil))))))))))), ?_⟩
  (repeat (first | refine ⟨_, rfl, ?_⟩ | refine ⟨_, _, rfl, rfl, ?_⟩ | refine ⟨rfl, ?_⟩ | refine ⟨_, _, rfl, .inl (by assumption), ?_⟩ | refine ⟨Or.inl ⟨by decide, by decide⟩, ?_⟩ | refine ⟨(by show (0 : Int) < _; decide), ?_⟩ | refine ⟨⟨by decide, by decide⟩, ?_⟩))
  refine ⟨h1, h2, fun H1 S1 => ?_⟩
  (repeat (first | refine ⟨_, rfl, ?_⟩ | refine ⟨_, _, rfl, rfl, ?_⟩ | refine ⟨rfl, ?_⟩ | refine ⟨_, _, rfl, .inl (by assumption), ?_⟩ | refine ⟨Or.inl ⟨by decide, by decide⟩, ?_⟩ | refine ⟨(by show (0 : Int) < _; decide), ?_⟩ | refine ⟨⟨by decide, by decide⟩, ?_⟩))
  refine ⟨r, 0, (W m m : Nat) - 1, _, rfl, by omega, by omega, ?_⟩
  (repeat (first | refine ⟨_, rfl, ?_⟩ | refine ⟨_, _, rfl, rfl, ?_⟩ | refine ⟨rfl, ?_⟩ | refine ⟨_, _, rfl, .inl (by assumption), ?_⟩ | refine ⟨Or.inl ⟨by decide, by decide⟩, ?_⟩ | refine ⟨(by show (0 : Int) < _; decide), ?_⟩ | refine ⟨⟨by decide, by decide⟩, ?_⟩))
  refine ⟨h2, fun rw H2 S2 hW => ?_⟩
  (repeat (first | refine ⟨_, rfl, ?_⟩ | refine ⟨_, _, rfl, rfl, ?_⟩ | refine ⟨rfl, ?_⟩ | refine ⟨_, _, rfl, .inl (by assumption), ?_⟩ | refine ⟨Or.inl ⟨by decide, by decide⟩, ?_⟩ | refine ⟨(by show (0 : Int) < _; decide), ?_⟩ | refine ⟨⟨by decide, by decide⟩, ?_⟩))
  refine ⟨by decide, fun ls hls => ?_⟩
  have S3 := same_upd_new hls (.lst [])
  have S12 := S1.trans S2
  (repeat (first | refine ⟨_, rfl, ?_⟩ | refine ⟨_, _, rfl, rfl, ?_⟩ | refine ⟨rfl, ?_⟩ | refine ⟨_, _, rfl, .inl (by assumption), ?_⟩ | refine ⟨Or.inl ⟨by decide, by decide⟩, ?_⟩ | refine ⟨(by show (0 : Int) < _; decide), ?_⟩ | refine ⟨⟨by decide, by decide⟩, ?_⟩))
  refine ⟨fun k σ H' => ∃ (o c rest : Nat) (zs : List Str) (u : Option V), k = o + c ∧ o ≤ m ∧ c ≤ m ∧ rest < W o c ∧ Same H2 H' ∧ H' ls = some (.lst (zs.map V.str)) ∧ (∀ z, z ∈ zs → z.length = 1) ∧ (zs.map fun z => z.cps.toList).flatten ++ un (o + c) o c rest = un (2 * m) m m r ∧ zs.length + (o + c) = 2 * m ∧ σ = [some (.int m), some (.int r), some (.ref rw), some (.int o), some (.int c), some (.int rest), some (.ref ls), u],
    ⟨_, m, m, r, [], _, rfl, Nat.le_refl _, Nat.le_refl _, hr', S3, upd_same, by simp, by simp; rw [show m + m = 2 * m by omega], by simp; omega, rfl⟩, ?_⟩
  rintro k σ H4 ⟨o, c, rest, zs, u, rfl, ho, hc, hrest, S4, e4, hone, hun, hlen, rfl⟩
  have oc : o ≤ c := Decidable.byContradiction fun z => by rw [W_low (by omega)] at hrest; omega
  (repeat (first | refine ⟨_, rfl, ?_⟩ | refine ⟨_, _, rfl, rfl, ?_⟩ | refine ⟨rfl, ?_⟩ | refine ⟨_, _, rfl, .inl (by assumption), ?_⟩ | refine ⟨Or.inl ⟨by decide, by decide⟩, ?_⟩ | refine ⟨(by show (0 : Int) < _; decide), ?_⟩ | refine ⟨⟨by decide, by decide⟩, ?_⟩))
  refine ite2 (fun y => ?_) (fun y => ?_)
  · have c0 : 1 ≤ c := by have := of_decide_eq_true y; omega
    have sp := W_split oc c0
    refine ⟨_, fun σ' H' h => h, ?_⟩
    (repeat (first | refine ⟨_, rfl, ?_⟩ | refine ⟨_, _, rfl, rfl, ?_⟩ | refine ⟨rfl, ?_⟩ | refine ⟨_, _, rfl, .inl (by assumption), ?_⟩ | refine ⟨Or.inl ⟨by decide, by decide⟩, ?_⟩ | refine ⟨(by show (0 : Int) < _; decide), ?_⟩ | refine ⟨⟨by decide, by decide⟩, ?_⟩))
    refine ⟨rw, m, o, c, rfl, hW.same S4, ho, hc, ?_⟩
    (repeat (first | refine ⟨_, rfl, ?_⟩ | refine ⟨_, _, rfl, rfl, ?_⟩ | refine ⟨rfl, ?_⟩ | refine ⟨_, _, rfl, .inl (by assumption), ?_⟩ | refine ⟨Or.inl ⟨by decide, by decide⟩, ?_⟩ | refine ⟨(by show (0 : Int) < _; decide), ?_⟩ | refine ⟨⟨by decide, by decide⟩, ?_⟩))
    obtain ⟨j, hj⟩ : ∃ j, o + c = j + 1 := ⟨o + c - 1, by omega⟩
    have hu : un (o + c) o c rest = if rest < ah o c then 40 :: un j (o - 1) c rest else 41 :: un j o (c - 1) (rest - ah o c) := by
      rw [hj]
      conv => lhs; unfold un
      rw [if_neg (show ¬ c = 0 by omega)]
    refine ite2 (fun y2 => ?_) (fun y2 => ?_)
    · have y2' : rest < ah o c := by have := of_decide_eq_true y2; omega
      have o0 : 0 < o := Decidable.byContradiction fun z => by unfold ah at y2'; rw [if_neg z] at y2'; omega
      rw [if_pos y2'] at hu
      (repeat (first | refine ⟨_, rfl, ?_⟩ | refine ⟨_, _, rfl, rfl, ?_⟩ | refine ⟨rfl, ?_⟩ | refine ⟨_, _, rfl, .inl (by assumption), ?_⟩ | refine ⟨Or.inl ⟨by decide, by decide⟩, ?_⟩ | refine ⟨(by show (0 : Int) < _; decide), ?_⟩ | refine ⟨⟨by decide, by decide⟩, ?_⟩))
      refine ⟨.inl ⟨rfl, _, SqL.of e4⟩, ?_⟩
      (repeat (first | refine ⟨_, rfl, ?_⟩ | refine ⟨_, _, rfl, rfl, ?_⟩ | refine ⟨rfl, ?_⟩ | refine ⟨_, _, rfl, .inl (by assumption), ?_⟩ | refine ⟨Or.inl ⟨by decide, by decide⟩, ?_⟩ | refine ⟨(by show (0 : Int) < _; decide), ?_⟩ | refine ⟨⟨by decide, by decide⟩, ?_⟩))
      refine ⟨ls, _, _, rfl, rfl, e4, by rw [List.length_map]; exact small1000 (by omega), ?_⟩
      (repeat (first | refine ⟨_, rfl, ?_⟩ | refine ⟨_, _, rfl, rfl, ?_⟩ | refine ⟨rfl, ?_⟩ | refine ⟨_, _, rfl, .inl (by assumption), ?_⟩ | refine ⟨Or.inl ⟨by decide, by decide⟩, ?_⟩ | refine ⟨(by show (0 : Int) < _; decide), ?_⟩ | refine ⟨⟨by decide, by decide⟩, ?_⟩))
      have eo : (o : Int) - 1 = ((o - 1 : Nat) : Int) := by omega
      refine ⟨o + c - 1, by omega, o - 1, c, rest, zs ++ [("(" : Str)], _, by omega, by omega, hc, by unfold ah at y2'; rw [if_pos o0] at y2'; exact y2', S4.upd hls _, ?_, ?_, ?_, by simp; omega, by rw [← eo]; rfl⟩
      · rw [upd_same, List.map_append]; rfl
      · intro z hz
        rcases List.mem_append.mp hz with t | t
        · exact hone z t
        · simp at t; rw [t]; rfl
      · rw [List.map_append, List.flatten_append, List.append_assoc, ← hun, hu]
        congr 1
        rw [show o - 1 + c = j by omega]
        rfl
    · have y2' : ¬ rest < ah o c := fun z => y2 (decide_eq_true (by omega))
      have d2 : rest - ah o c < W o (c - 1) := by omega
      rw [if_neg y2'] at hu
      (repeat (first | refine ⟨_, rfl, ?_⟩ | refine ⟨_, _, rfl, rfl, ?_⟩ | refine ⟨rfl, ?_⟩ | refine ⟨_, _, rfl, .inl (by assumption), ?_⟩ | refine ⟨Or.inl ⟨by decide, by decide⟩, ?_⟩ | refine ⟨(by show (0 : Int) < _; decide), ?_⟩ | refine ⟨⟨by decide, by decide⟩, ?_⟩))
      refine ⟨.inl ⟨rfl, _, SqL.of e4⟩, ?_⟩
      (repeat (first | refine ⟨_, rfl, ?_⟩ | refine ⟨_, _, rfl, rfl, ?_⟩ | refine ⟨rfl, ?_⟩ | refine ⟨_, _, rfl, .inl (by assumption), ?_⟩ | refine ⟨Or.inl ⟨by decide, by decide⟩, ?_⟩ | refine ⟨(by show (0 : Int) < _; decide), ?_⟩ | refine ⟨⟨by decide, by decide⟩, ?_⟩))
      refine ⟨ls, _, _, rfl, rfl, e4, by rw [List.length_map]; exact small1000 (by omega), ?_⟩
      (repeat (first | refine ⟨_, rfl, ?_⟩ | refine ⟨_, _, rfl, rfl, ?_⟩ | refine ⟨rfl, ?_⟩ | refine ⟨_, _, rfl, .inl (by assumption), ?_⟩ | refine ⟨Or.inl ⟨by decide, by decide⟩, ?_⟩ | refine ⟨(by show (0 : Int) < _; decide), ?_⟩ | refine ⟨⟨by decide, by decide⟩, ?_⟩))
      have ec : (c : Int) - 1 = ((c - 1 : Nat) : Int) := by omega
      have er : (rest : Int) - ((ah o c : Nat) : Int) = ((rest - ah o c : Nat) : Int) := by omega
      refine ⟨o + c - 1, by omega, o, c - 1, rest - ah o c, zs ++ [(")" : Str)], _, by omega, ho, by omega, d2, S4.upd hls _, ?_, ?_, ?_, by simp; omega, by rw [← ec, ← er]; rfl⟩
      · rw [upd_same, List.map_append]; rfl
      · intro z hz
        rcases List.mem_append.mp hz with t | t
        · exact hone z t
        · simp at t; rw [t]; rfl
      · rw [List.map_append, List.flatten_append, List.append_assoc, ← hun, hu]
        congr 1
        rw [show o + (c - 1) = j by omega]
        rfl
  · have c0 : c = 0 := Decidable.byContradiction fun z => y (decide_eq_true (by omega))
    have o0 : o = 0 := by omega
    subst c0 o0
    rw [show un (0 + 0) 0 0 rest = [] from rfl, List.append_nil] at hun
    obtain ⟨okw, _⟩ := un_ok (k := 2 * m) (o := m) (c := m) (r := r) (by omega) hr'
    obtain ⟨g, hA, hg⟩ := word_arcs okw
    have e0 : (("" : Str)).length = 0 := rfl
    (repeat (first | refine ⟨_, rfl, ?_⟩ | refine ⟨_, _, rfl, rfl, ?_⟩ | refine ⟨rfl, ?_⟩ | refine ⟨_, _, rfl, .inl (by assumption), ?_⟩ | refine ⟨Or.inl ⟨by decide, by decide⟩, ?_⟩ | refine ⟨(by show (0 : Int) < _; decide), ?_⟩ | refine ⟨⟨by decide, by decide⟩, ?_⟩))
    refine ⟨_, ls, zs, rfl, rfl, SqL.of e4, ?_, ?_⟩
    · have hs : ∀ l : List Str, (∀ z, z ∈ l → z.length = 1) → (l.map (·.length)).sum = l.length := fun l => by
        induction l with
        | nil => intro _; rfl
        | cons a t ih => intro h; rw [List.map_cons, List.sum_cons, ih (fun z hz => h z (List.mem_cons_of_mem _ hz)), h a List.mem_cons_self, List.length_cons]; omega
      rw [hs zs hone, e0]
      omega
    (repeat (first | refine ⟨_, rfl, ?_⟩ | refine ⟨_, _, rfl, rfl, ?_⟩ | refine ⟨rfl, ?_⟩ | refine ⟨_, _, rfl, .inl (by assumption), ?_⟩ | refine ⟨Or.inl ⟨by decide, by decide⟩, ?_⟩ | refine ⟨(by show (0 : Int) < _; decide), ?_⟩ | refine ⟨⟨by decide, by decide⟩, ?_⟩))
    refine ⟨_, 2 * m, g, rfl, ?_, hA, by omega, by omega, by omega, fun l H5 S5 hl5 e5 => q l H5 g (S12.trans (S4.trans S5)) (S12.free (S4.free hl5)) hA hg e5⟩
    have e : ("" : Str) = ⟨#[]⟩ := rfl
    rw [e, join_toList, hun, hg]

def sp_road_from (K : PySem.W.Frag) : Sp := fun vs H Q _ => ∃ (p q : Addr) (n : Nat) (a b : Nat → Nat) (x : Nat), vs = [.int x, .ref p, .ref q] ∧ SqL K H p ((tab n a).map V.int) ∧ SqL K H q ((tab n b).map V.int) ∧ Pairs n a ∧ Pairs n b ∧ x < n ∧ n ≤ 100 ∧
  ∀ (r : Addr) (H' : Hp), Same H H' → H r = none → H' r = some (.lst ((ni (way a b x)).map V.int)) → Q (.ref r) H'
theorem ok_road_from (F : FunD K "road_from" "road_from" s_road_from dV f fd) : FnOk P w K mg base CX0 1 f fd ["first", "above", "below"] (sp_road_from K) := by
  refine F.ok (k := 0) sc_road_from (fun vs H Q E h => ?_) (fun cdv A outer s H vs Q E hr h => ?_)
  · obtain ⟨_, _, _, _, _, _, rfl, _⟩ := h; rfl
  obtain ⟨p, q, n, a, b, x, rfl, hP, hQ, hA, hB, hx, hn, qq⟩ := h
  have nd := sc_road_from.nd
  refine ⟨_, (pss_cons (ps_set (i := 3) nd rfl (Or.inl rfl) (pe_lst (pa_cons (pv 0) (pa_cons (pe_ix ix_list (pv 1) (pv 0) (fun _ _ => rfl)) pa_nil))))
  (pss_cons (ps_set (i := 4) nd rfl (Or.inl rfl) (pe_ix ix_list (pv 2) (pe_ix ix_list (pv 1) (pv 0) (fun _ _ => rfl)) (fun _ _ => rfl)))
  (pss_cons (ps_while PassesOwn.never (pt_cmpR op_ne (pv 4) (pv 0) (nomark _)) (pss_cons (ps_expr (pe_bm PySem.F.plainAttrs_list PySem.F.slot_list_append PySem.F.type_list_append mt_append (pv 3) (pa_cons (pv 4) pa_nil)))
  (pss_cons (ps_expr (pe_bm PySem.F.plainAttrs_list PySem.F.slot_list_append PySem.F.type_list_append mt_append (pv 3) (pa_cons (pe_ix ix_list (pv 1) (pv 4) (fun _ _ => rfl)) pa_nil)))
  (pss_one (ps_set (i := 4) nd rfl (Or.inl rfl) (pe_ix ix_list (pv 2) (pe_ix ix_list (pv 1) (pv 4) (fun _ _ => rfl)) (fun _ _ => rfl)))))))
  (pss_one (ps_ret (pv 3)))))), ?_⟩
  have la : ∀ {y : Nat}, y < n → atI ((tab n a).map V.int) (y : Int) = some (.int (a y : Nat)) := fun {y} hy => atI_int (by omega) (by rw [Int.toNat_natCast]; exact tab_get hy)
  have lb : ∀ {y : Nat}, y < n → atI ((tab n b).map V.int) (y : Int) = some (.int (b y : Nat)) := fun {y} hy => atI_int (by omega) (by rw [Int.toNat_natCast]; exact tab_get hy)
  have lt := itr_lt hA hB.invo hx
  have hst := stopAt_lt hA hB.invo hx
  (repeat (first | refine ⟨_, rfl, ?_⟩ | refine ⟨_, _, rfl, rfl, ?_⟩ | refine ⟨rfl, ?_⟩ | refine ⟨_, _, rfl, .inl (by assumption), ?_⟩ | refine ⟨Or.inl ⟨by decide, by decide⟩, ?_⟩ | refine ⟨(by show (0 : Int) < _; decide), ?_⟩ | refine ⟨⟨by decide, by decide⟩, ?_⟩))
  refine ⟨p, _, _, _, rfl, rfl, hP, la hx, ?_⟩
  (repeat (first | refine ⟨_, rfl, ?_⟩ | refine ⟨_, _, rfl, rfl, ?_⟩ | refine ⟨rfl, ?_⟩ | refine ⟨_, _, rfl, .inl (by assumption), ?_⟩ | refine ⟨Or.inl ⟨by decide, by decide⟩, ?_⟩ | refine ⟨(by show (0 : Int) < _; decide), ?_⟩ | refine ⟨⟨by decide, by decide⟩, ?_⟩))
  refine ⟨(by show 2 ≤ sizeLine; decide), fun l hl => ?_⟩
  have S0 := same_upd_new hl (.lst [.int (x : Nat), .int (a x : Nat)])
  (repeat (first | refine ⟨_, rfl, ?_⟩ | refine ⟨_, _, rfl, rfl, ?_⟩ | refine ⟨rfl, ?_⟩ | refine ⟨_, _, rfl, .inl (by assumption), ?_⟩ | refine ⟨Or.inl ⟨by decide, by decide⟩, ?_⟩ | refine ⟨(by show (0 : Int) < _; decide), ?_⟩ | refine ⟨⟨by decide, by decide⟩, ?_⟩))
  refine ⟨p, _, _, _, rfl, rfl, S0.seq hP, la hx, ?_⟩
  (repeat (first | refine ⟨_, rfl, ?_⟩ | refine ⟨_, _, rfl, rfl, ?_⟩ | refine ⟨rfl, ?_⟩ | refine ⟨_, _, rfl, .inl (by assumption), ?_⟩ | refine ⟨Or.inl ⟨by decide, by decide⟩, ?_⟩ | refine ⟨(by show (0 : Int) < _; decide), ?_⟩ | refine ⟨⟨by decide, by decide⟩, ?_⟩))
  refine ⟨q, _, _, _, rfl, rfl, S0.seq hQ, lb (hA.lt _ hx), ?_⟩
  (repeat (first | refine ⟨_, rfl, ?_⟩ | refine ⟨_, _, rfl, rfl, ?_⟩ | refine ⟨rfl, ?_⟩ | refine ⟨_, _, rfl, .inl (by assumption), ?_⟩ | refine ⟨Or.inl ⟨by decide, by decide⟩, ?_⟩ | refine ⟨(by show (0 : Int) < _; decide), ?_⟩ | refine ⟨⟨by decide, by decide⟩, ?_⟩))
  refine ⟨fun m σ H' => ∃ i, i ≤ stopAt a b x ∧ m = stopAt a b x - i ∧ Same H H' ∧ H' l = some (.lst ((ni (wayL a b x (i + 1))).map V.int)) ∧ σ = [some (.int x), some (.ref p), some (.ref q), some (.ref l), some (.int (b (a (itr a b x i)) : Nat))], ⟨_, 0, Nat.zero_le _, rfl, S0, upd_same, rfl⟩, ?_⟩
  rintro m σ H1 ⟨i, hi, rfl, S1, h1, rfl⟩
  (repeat (first | refine ⟨_, rfl, ?_⟩ | refine ⟨_, _, rfl, rfl, ?_⟩ | refine ⟨rfl, ?_⟩ | refine ⟨_, _, rfl, .inl (by assumption), ?_⟩ | refine ⟨Or.inl ⟨by decide, by decide⟩, ?_⟩ | refine ⟨(by show (0 : Int) < _; decide), ?_⟩ | refine ⟨⟨by decide, by decide⟩, ?_⟩))
  refine ite2 (fun y => ?_) (fun y => ?_)
  · have y' : b (a (itr a b x i)) ≠ x := fun z => ne_yes y (by rw [z])
    have hi' : i < stopAt a b x := by
      rcases Nat.lt_or_ge i (stopAt a b x) with z | z
      · exact z
      · exfalso
        have : i = stopAt a b x := by omega
        rw [this] at y'
        exact y' (last_step hA hB hx)
    refine ⟨_, fun σ' H' h => h, ?_⟩
    (repeat (first | refine ⟨_, rfl, ?_⟩ | refine ⟨_, _, rfl, rfl, ?_⟩ | refine ⟨rfl, ?_⟩ | refine ⟨_, _, rfl, .inl (by assumption), ?_⟩ | refine ⟨Or.inl ⟨by decide, by decide⟩, ?_⟩ | refine ⟨(by show (0 : Int) < _; decide), ?_⟩ | refine ⟨⟨by decide, by decide⟩, ?_⟩))
    refine ⟨.inl ⟨rfl, _, SqL.of h1⟩, ?_⟩
    (repeat (first | refine ⟨_, rfl, ?_⟩ | refine ⟨_, _, rfl, rfl, ?_⟩ | refine ⟨rfl, ?_⟩ | refine ⟨_, _, rfl, .inl (by assumption), ?_⟩ | refine ⟨Or.inl ⟨by decide, by decide⟩, ?_⟩ | refine ⟨(by show (0 : Int) < _; decide), ?_⟩ | refine ⟨⟨by decide, by decide⟩, ?_⟩))
    refine ⟨l, _, _, rfl, rfl, h1, ?_, ?_⟩
    · rw [ni_len, wayL_length]; exact small1000 (by omega)
    have S2 : Same H (upd H1 l (.lst ((ni (wayL a b x (i + 1))).map V.int ++ [.int (b (a (itr a b x i)) : Nat)]))) := S1.upd hl _
    (repeat (first | refine ⟨_, rfl, ?_⟩ | refine ⟨_, _, rfl, rfl, ?_⟩ | refine ⟨rfl, ?_⟩ | refine ⟨_, _, rfl, .inl (by assumption), ?_⟩ | refine ⟨Or.inl ⟨by decide, by decide⟩, ?_⟩ | refine ⟨(by show (0 : Int) < _; decide), ?_⟩ | refine ⟨⟨by decide, by decide⟩, ?_⟩))
    refine ⟨.inl ⟨rfl, _, SqL.of upd_same⟩, ?_⟩
    (repeat (first | refine ⟨_, rfl, ?_⟩ | refine ⟨_, _, rfl, rfl, ?_⟩ | refine ⟨rfl, ?_⟩ | refine ⟨_, _, rfl, .inl (by assumption), ?_⟩ | refine ⟨Or.inl ⟨by decide, by decide⟩, ?_⟩ | refine ⟨(by show (0 : Int) < _; decide), ?_⟩ | refine ⟨⟨by decide, by decide⟩, ?_⟩))
    refine ⟨p, _, _, _, rfl, rfl, S2.seq hP, la (lt (i + 1)), ?_⟩
    (repeat (first | refine ⟨_, rfl, ?_⟩ | refine ⟨_, _, rfl, rfl, ?_⟩ | refine ⟨rfl, ?_⟩ | refine ⟨_, _, rfl, .inl (by assumption), ?_⟩ | refine ⟨Or.inl ⟨by decide, by decide⟩, ?_⟩ | refine ⟨(by show (0 : Int) < _; decide), ?_⟩ | refine ⟨⟨by decide, by decide⟩, ?_⟩))
    refine ⟨l, _, _, rfl, rfl, upd_same, ?_, ?_⟩
    · rw [List.length_append, ni_len, wayL_length]; exact small1000 (by simp; omega)
    have S3 := S2.upd hl (.lst ((ni (wayL a b x (i + 1))).map V.int ++ [.int (b (a (itr a b x i)) : Nat)] ++ [.int (a (itr a b x (i + 1)) : Nat)]))
    (repeat (first | refine ⟨_, rfl, ?_⟩ | refine ⟨_, _, rfl, rfl, ?_⟩ | refine ⟨rfl, ?_⟩ | refine ⟨_, _, rfl, .inl (by assumption), ?_⟩ | refine ⟨Or.inl ⟨by decide, by decide⟩, ?_⟩ | refine ⟨(by show (0 : Int) < _; decide), ?_⟩ | refine ⟨⟨by decide, by decide⟩, ?_⟩))
    refine ⟨p, _, _, _, rfl, rfl, S3.seq hP, la (lt (i + 1)), ?_⟩
    (repeat (first | refine ⟨_, rfl, ?_⟩ | refine ⟨_, _, rfl, rfl, ?_⟩ | refine ⟨rfl, ?_⟩ | refine ⟨_, _, rfl, .inl (by assumption), ?_⟩ | refine ⟨Or.inl ⟨by decide, by decide⟩, ?_⟩ | refine ⟨(by show (0 : Int) < _; decide), ?_⟩ | refine ⟨⟨by decide, by decide⟩, ?_⟩))
    refine ⟨q, _, _, _, rfl, rfl, S3.seq hQ, lb (hA.lt _ (lt (i + 1))), ?_⟩
    refine ⟨stopAt a b x - (i + 1), by omega, i + 1, by omega, rfl, S3, ?_, rfl⟩
    rw [upd_same, show wayL a b x (i + 1 + 1) = wayL a b x (i + 1) ++ [itr a b x (i + 1), a (itr a b x (i + 1))] from rfl, nv_append]
    simp [ni]
    exact ⟨rfl, rfl⟩
  · have y' : b (a (itr a b x i)) = x := by have := ne_no y; omega
    have hi' : i = stopAt a b x := by
      rcases Nat.lt_or_ge i (stopAt a b x) with z | z
      · exact absurd y' (next_step hA hB hx z)
      · omega
    subst hi'
    (repeat (first | refine ⟨_, rfl, ?_⟩ | refine ⟨_, _, rfl, rfl, ?_⟩ | refine ⟨rfl, ?_⟩ | refine ⟨_, _, rfl, .inl (by assumption), ?_⟩ | refine ⟨Or.inl ⟨by decide, by decide⟩, ?_⟩ | refine ⟨(by show (0 : Int) < _; decide), ?_⟩ | refine ⟨⟨by decide, by decide⟩, ?_⟩))
    exact qq l H1 S1 hl h1

def sp_roads (K : PySem.W.Frag) : Sp := fun vs H Q _ => ∃ (p q : Addr) (n : Nat) (a b : Nat → Nat), vs = [.ref p, .ref q] ∧ SqL K H p ((tab n a).map V.int) ∧ SqL K H q ((tab n b).map V.int) ∧ IsArcs n a ∧ IsArcs n b ∧ n % 2 = 0 ∧ 2 ≤ n ∧ n ≤ 40 ∧
  ∀ (r : Addr) (H' : Hp) (as : List Addr), Same H H' → H r = none → H' r = some (.lst (as.map V.ref)) → r ∉ as → RowsAt H H' as ((scan (way a b) [] n).map (way a b)) → Q (.ref r) H'
theorem ok_roads (F : FunD K "roads" "roads" s_roads dV f fd) (c_refuse_unlike : Fn P w K mg base CX0 "refuse_unlike" ["one", "other"] [] 6 (sp_refuse_unlike K)) (c_road_from : Fn P w K mg base CX0 "road_from" ["first", "above", "below"] [] 1 (sp_road_from K)) (mlen : mg "len" = none) (mrange : mg "range" = none) : FnOk P w K mg base CX0 7 f fd ["above", "below"] (sp_roads K) := by
  refine F.ok (k := 6) sc_roads (fun vs H Q E h => ?_) (fun cdv A outer s H vs Q E hr h => ?_)
  · obtain ⟨_, _, _, _, _, rfl, _⟩ := h; rfl
  obtain ⟨p, q, n, a, b, rfl, hP, hQ, hA, hB, h2, h0, h1, qq⟩ := h
  have nd := sc_roads.nd
  refine ⟨_, (pss_cons (ps_expr (pe_fn c_refuse_unlike hr (by decide) rfl (pa_cons (pv 0) (pa_cons (pv 1) pa_nil))))
  (pss_cons (ps_set (i := 2) nd rfl (Or.inl rfl) (pe_lst pa_nil))
  (pss_cons (ps_set (i := 3) nd rfl (Or.inl rfl) (pe_lst pa_nil))
  (pss_cons (ps_for PassesOwn.never rfl (pi_range1 rfl mrange (pa_cons (pe_callB call_len_seq rfl mlen PySem.boot_len (pa_cons (pv 0) pa_nil)) pa_nil)) (pg_name (i := 4) nd rfl (Or.inl rfl)) (pss_one (ps_if (pt_cmpR op_notIn_seq (pv 4) (pv 3) (by with_unfolding_all rfl)) (pss_cons (ps_set (i := 5) nd rfl (Or.inl rfl) (pe_fn c_road_from hr (by decide) rfl (pa_cons (pv 4) (pa_cons (pv 0) (pa_cons (pv 1) pa_nil)))))
  (pss_cons (ps_expr (pe_bm PySem.F.plainAttrs_list PySem.F.slot_list_append PySem.F.type_list_append mt_append (pv 2) (pa_cons (pv 5) pa_nil)))
  (pss_one (ps_expr (pe_bm PySem.F.plainAttrs_list PySem.F.slot_list_extend PySem.F.type_list_extend mt_extend (pv 3) (pa_cons (pv 5) pa_nil)))))) pss_nil)))
  (pss_one (ps_ret (pv 2))))))), ?_⟩
  have hl : ((tab n a).map V.int).length = n := by rw [List.length_map, tab_length]
  (repeat (first | refine ⟨_, rfl, ?_⟩ | refine ⟨_, _, rfl, rfl, ?_⟩ | refine ⟨rfl, ?_⟩ | refine ⟨_, _, rfl, .inl (by assumption), ?_⟩ | refine ⟨Or.inl ⟨by decide, by decide⟩, ?_⟩ | refine ⟨(by show (0 : Int) < _; decide), ?_⟩ | refine ⟨⟨by decide, by decide⟩, ?_⟩))
  refine ⟨p, q, tab n a, tab n b, rfl, hP, hQ, isArcs_tab hA h2 h0 h1, isArcs_tab hB h2 h0 h1, by rw [tab_length, tab_length], fun H0 S0 => ?_⟩
  (repeat (first | refine ⟨_, rfl, ?_⟩ | refine ⟨_, _, rfl, rfl, ?_⟩ | refine ⟨rfl, ?_⟩ | refine ⟨_, _, rfl, .inl (by assumption), ?_⟩ | refine ⟨Or.inl ⟨by decide, by decide⟩, ?_⟩ | refine ⟨(by show (0 : Int) < _; decide), ?_⟩ | refine ⟨⟨by decide, by decide⟩, ?_⟩))
  refine ⟨by decide, fun lf hlf => ?_⟩
  have S1 := same_upd_new hlf (.lst [])
  (repeat (first | refine ⟨_, rfl, ?_⟩ | refine ⟨_, _, rfl, rfl, ?_⟩ | refine ⟨rfl, ?_⟩ | refine ⟨_, _, rfl, .inl (by assumption), ?_⟩ | refine ⟨Or.inl ⟨by decide, by decide⟩, ?_⟩ | refine ⟨(by show (0 : Int) < _; decide), ?_⟩ | refine ⟨⟨by decide, by decide⟩, ?_⟩))
  refine ⟨by decide, fun lm hlm => ?_⟩
  have S2 := same_upd_new hlm (.lst [])
  have nfm : lf ≠ lm := fun z => by rw [z, upd_same] at hlm; cases hlm
  have hlf0 : H lf = none := S0.free hlf
  have hlm0 : H lm = none := S0.free (S1.free hlm)
  have SS := S0.trans (S1.trans S2)
  have hP3 := SS.seq hP
  (repeat (first | refine ⟨_, rfl, ?_⟩ | refine ⟨_, _, rfl, rfl, ?_⟩ | refine ⟨rfl, ?_⟩ | refine ⟨_, _, rfl, .inl (by assumption), ?_⟩ | refine ⟨Or.inl ⟨by decide, by decide⟩, ?_⟩ | refine ⟨(by show (0 : Int) < _; decide), ?_⟩ | refine ⟨⟨by decide, by decide⟩, ?_⟩))
  rw [hl]
  refine ⟨by omega, by omega, ?_⟩
  rw [Int.toNat_natCast]
  refine for_range (fun i σ H' => ∃ as, Same H H' ∧ H' lf = some (.lst (as.map V.ref)) ∧ H' lm = some (.lst ((ni (metL a b i)).map V.int)) ∧ RowsAt H H' as ((scan (way a b) [] i).map (way a b)) ∧ lf ∉ as ∧ lm ∉ as ∧ as.length ≤ i ∧ (metL a b i).length ≤ 100 * i ∧ ∃ u v, σ = [some (.ref p), some (.ref q), some (.ref lf), some (.ref lm), u, v]) ?_ ?_ ?_
  · exact ⟨[], SS, by rw [upd_ne nfm, upd_same]; rfl, by rw [upd_same]; rfl, RowsAt.nil _ _, by simp, by simp, by simp, by simp [metL, scan], _, _, rfl⟩
  · rintro i σ H3 hi ⟨as, S3, e1, e2, R, n1, n2, hz, hz2, u, v, rfl⟩
    have e0 : (0 : Int) + (i : Int) = i := by omega
    rw [e0]
    (repeat (first | refine ⟨_, rfl, ?_⟩ | refine ⟨_, _, rfl, rfl, ?_⟩ | refine ⟨rfl, ?_⟩ | refine ⟨_, _, rfl, .inl (by assumption), ?_⟩ | refine ⟨Or.inl ⟨by decide, by decide⟩, ?_⟩ | refine ⟨(by show (0 : Int) < _; decide), ?_⟩ | refine ⟨⟨by decide, by decide⟩, ?_⟩))
    refine ⟨lm, _, rfl, .inl (SqL.of e2), rfl, flat_ints _, ?_⟩
    (repeat (first | refine ⟨_, rfl, ?_⟩ | refine ⟨_, _, rfl, rfl, ?_⟩ | refine ⟨rfl, ?_⟩ | refine ⟨_, _, rfl, .inl (by assumption), ?_⟩ | refine ⟨Or.inl ⟨by decide, by decide⟩, ?_⟩ | refine ⟨(by show (0 : Int) < _; decide), ?_⟩ | refine ⟨⟨by decide, by decide⟩, ?_⟩))
    refine ite2 (fun y => ?_) (fun y => ?_)
    · have y' : i ∉ metL a b i := by
        simp only [if_pos, inV_ni] at y
        simpa using y
      have sc : scan (way a b) [] (i + 1) = scan (way a b) [] i ++ [i] := by
        show (if i ∈ [] ++ ((scan (way a b) [] i).map (way a b)).flatten then _ else _) = _
        rw [List.nil_append]
        exact if_neg y'
      (repeat (first | refine ⟨_, rfl, ?_⟩ | refine ⟨_, _, rfl, rfl, ?_⟩ | refine ⟨rfl, ?_⟩ | refine ⟨_, _, rfl, .inl (by assumption), ?_⟩ | refine ⟨Or.inl ⟨by decide, by decide⟩, ?_⟩ | refine ⟨(by show (0 : Int) < _; decide), ?_⟩ | refine ⟨⟨by decide, by decide⟩, ?_⟩))
      refine ⟨p, q, n, a, b, i, rfl, S3.seq hP, S3.seq hQ, hA.pairs, hB.pairs, hi, by omega, fun r H4 S4 hr4 e4 => ?_⟩
      have f1 := S4 _ _ e1
      have f2 := S4 _ _ e2
      have nr1 : lf ≠ r := ne_of_none e1 hr4
      have nr2 : lm ≠ r := ne_of_none e2 hr4
      (repeat (first | refine ⟨_, rfl, ?_⟩ | refine ⟨_, _, rfl, rfl, ?_⟩ | refine ⟨rfl, ?_⟩ | refine ⟨_, _, rfl, .inl (by assumption), ?_⟩ | refine ⟨Or.inl ⟨by decide, by decide⟩, ?_⟩ | refine ⟨(by show (0 : Int) < _; decide), ?_⟩ | refine ⟨⟨by decide, by decide⟩, ?_⟩))
      refine ⟨.inl ⟨rfl, _, SqL.of f1⟩, ?_⟩
      (repeat (first | refine ⟨_, rfl, ?_⟩ | refine ⟨_, _, rfl, rfl, ?_⟩ | refine ⟨rfl, ?_⟩ | refine ⟨_, _, rfl, .inl (by assumption), ?_⟩ | refine ⟨Or.inl ⟨by decide, by decide⟩, ?_⟩ | refine ⟨(by show (0 : Int) < _; decide), ?_⟩ | refine ⟨⟨by decide, by decide⟩, ?_⟩))
      refine ⟨lf, _, _, rfl, rfl, f1, by rw [List.length_map]; exact small1000 (by omega), ?_⟩
      (repeat (first | refine ⟨_, rfl, ?_⟩ | refine ⟨_, _, rfl, rfl, ?_⟩ | refine ⟨rfl, ?_⟩ | refine ⟨_, _, rfl, .inl (by assumption), ?_⟩ | refine ⟨Or.inl ⟨by decide, by decide⟩, ?_⟩ | refine ⟨(by show (0 : Int) < _; decide), ?_⟩ | refine ⟨⟨by decide, by decide⟩, ?_⟩))
      refine ⟨.inl ⟨rfl, _, SqL.of (show upd H4 lf _ lm = _ by rw [upd_ne (Ne.symm nfm)]; exact f2)⟩, ?_⟩
      (repeat (first | refine ⟨_, rfl, ?_⟩ | refine ⟨_, _, rfl, rfl, ?_⟩ | refine ⟨rfl, ?_⟩ | refine ⟨_, _, rfl, .inl (by assumption), ?_⟩ | refine ⟨Or.inl ⟨by decide, by decide⟩, ?_⟩ | refine ⟨(by show (0 : Int) < _; decide), ?_⟩ | refine ⟨⟨by decide, by decide⟩, ?_⟩))
      have hst := stopAt_lt hA.pairs hB.pairs.invo hi
      refine ⟨lm, r, _, _, rfl, rfl, (by rw [upd_ne (Ne.symm nfm)]; exact f2), (by rw [upd_ne (Ne.symm nr1)]; exact e4), ?_, ?_⟩
      · rw [ni_len, ni_len]; unfold way; rw [wayL_length]; exact small60 (by omega)
      have R4 : RowsAt H H4 (as ++ [r]) ((scan (way a b) [] i).map (way a b) ++ [way a b i]) := (R.same S4).push e4 (S3.free hr4) (R.apart2 S4 hr4)
      refine ⟨as ++ [r], ((S3.trans S4).upd hlf0 _).upd hlm0 _, ?_, ?_, ?_, ?_, ?_, ?_, ?_, _, _, rfl⟩
      · rw [upd_ne nfm, upd_same, List.map_append]; rfl
      · rw [upd_same, metL_next sc, nv_append]
      · rw [sc, List.map_append]
        exact (R4.upd (by simp [n1, nr1])).upd (by simp [n2, nr2])
      · simp [n1, nr1]
      · simp [n2, nr2]
      · simp; omega
      · rw [metL_next sc, List.length_append]; unfold way; rw [wayL_length]; omega
    · have y' : i ∈ metL a b i := by
        simp only [if_pos, inV_ni] at y
        simpa using y
      have sc : scan (way a b) [] (i + 1) = scan (way a b) [] i := by
        show (if i ∈ [] ++ ((scan (way a b) [] i).map (way a b)).flatten then _ else _) = _
        rw [List.nil_append]
        exact if_pos y'
      have me : metL a b (i + 1) = metL a b i := by unfold metL; rw [sc]
      refine ⟨as, S3, e1, by rw [me]; exact e2, by rw [sc]; exact R, n1, n2, by omega, by rw [me]; omega, _, _, rfl⟩
  · rintro σ H3 ⟨as, S3, e1, e2, R, n1, n2, hz, hz2, u, v, rfl⟩
    (repeat (first | refine ⟨_, rfl, ?_⟩ | refine ⟨_, _, rfl, rfl, ?_⟩ | refine ⟨rfl, ?_⟩ | refine ⟨_, _, rfl, .inl (by assumption), ?_⟩ | refine ⟨Or.inl ⟨by decide, by decide⟩, ?_⟩ | refine ⟨(by show (0 : Int) < _; decide), ?_⟩ | refine ⟨⟨by decide, by decide⟩, ?_⟩))
    exact qq lf H3 as S3 hlf0 e1 n1 R

def sp_many_roads (K : PySem.W.Frag) : Sp := fun vs H Q _ => ∃ (p q : Addr) (n : Nat) (a b : Nat → Nat), vs = [.ref p, .ref q] ∧ SqL K H p ((tab n a).map V.int) ∧ SqL K H q ((tab n b).map V.int) ∧ IsArcs n a ∧ IsArcs n b ∧ n % 2 = 0 ∧ 2 ≤ n ∧ n ≤ 40 ∧
  ∀ (H' : Hp), Same H H' → Q (.int (many n a b : Nat)) H'
theorem ok_many_roads (F : FunD K "many_roads" "many_roads" s_many_roads dV f fd) (c_roads : Fn P w K mg base CX0 "roads" ["above", "below"] [] 7 (sp_roads K)) (mlen : mg "len" = none) : FnOk P w K mg base CX0 8 f fd ["above", "below"] (sp_many_roads K) := by
  refine F.ok (k := 7) sc_many_roads (fun vs H Q E h => ?_) (fun cdv A outer s H vs Q E hr h => ?_)
  · obtain ⟨_, _, _, _, _, rfl, _⟩ := h; rfl
  obtain ⟨p, q, n, a, b, rfl, hP, hQ, hA, hB, h2, h0, h1, qq⟩ := h
  have nd := sc_many_roads.nd
  refine ⟨_, (pss_one (ps_ret (pe_callB call_len_seq rfl mlen PySem.boot_len (pa_cons (pe_fn c_roads hr (by decide) rfl (pa_cons (pv 0) (pa_cons (pv 1) pa_nil))) pa_nil)))), ?_⟩
  (repeat (first | refine ⟨_, rfl, ?_⟩ | refine ⟨_, _, rfl, rfl, ?_⟩ | refine ⟨rfl, ?_⟩ | refine ⟨_, _, rfl, .inl (by assumption), ?_⟩ | refine ⟨Or.inl ⟨by decide, by decide⟩, ?_⟩ | refine ⟨(by show (0 : Int) < _; decide), ?_⟩ | refine ⟨⟨by decide, by decide⟩, ?_⟩))
  refine ⟨p, q, n, a, b, rfl, hP, hQ, hA, hB, h2, h0, h1, fun r H' as S' hr' e nr R => ?_⟩
  (repeat (first | refine ⟨_, rfl, ?_⟩ | refine ⟨_, _, rfl, rfl, ?_⟩ | refine ⟨rfl, ?_⟩ | refine ⟨_, _, rfl, .inl (by assumption), ?_⟩ | refine ⟨Or.inl ⟨by decide, by decide⟩, ?_⟩ | refine ⟨(by show (0 : Int) < _; decide), ?_⟩ | refine ⟨⟨by decide, by decide⟩, ?_⟩))
  refine ⟨r, _, rfl, .inl (SqL.of e), ?_⟩
  have el : (as.map V.ref).length = many n a b := by
    rw [List.length_map, R.len, List.length_map]
    exact scan_many hA.pairs hB.pairs
  rw [el]
  exact qq H' S'

def sp_rows_with : Sp := fun vs H Q _ => ∃ (m k : Nat), vs = [.int m, .int k] ∧ 1 ≤ m ∧ m ≤ 5 ∧ 1 ≤ k ∧ k ≤ m ∧ ∀ (H' : Hp) (gs : List (Nat → Nat)), Same H H' → (∀ g, g ∈ gs → IsArcs (2 * m) g) → gs.map (word (2 * m)) = (List.range (W m m)).map (un (2 * m) m m) → Q (.int (cntP m k gs gs : Nat)) H'
theorem ok_rows_with (F : FunD K "rows_with" "rows_with" s_rows_with dV f fd) (c_refuse_no_number : Fn P w K mg base CX0 "refuse_no_number" ["number", "least", "most", "called"] [] 1 sp_refuse_no_number) (c_many : Fn P w K mg base CX0 "many" ["size"] [] 3 sp_many) (c_arcs_at : Fn P w K mg base CX0 "arcs_at" ["size", "number"] [] 4 sp_arcs_at) (c_many_roads : Fn P w K mg base CX0 "many_roads" ["above", "below"] [] 8 (sp_many_roads K)) (mrange : mg "range" = none) {tM : Tok} (mMOST_IN_PAIRS : mg "MOST_IN_PAIRS" = some (.int 5 tM)) : FnOk P w K mg base CX0 9 f fd ["size", "roads"] sp_rows_with := by
  refine F.ok (k := 8) sc_rows_with (fun vs H Q E h => ?_) (fun cdv A outer s H vs Q E hr h => ?_)
  · obtain ⟨_, _, rfl, _⟩ := h; rfl
  obtain ⟨m, k, rfl, m1, m2, k1, k2, q⟩ := h
  have nd := sc_rows_with.nd
  refine ⟨_, (pss_cons (ps_expr (pe_fn c_refuse_no_number hr (by decide) rfl (pa_cons (pv 0) (pa_cons pe_int (pa_cons (pe_glob (v := .int 5) rfl mMOST_IN_PAIRS ⟨_, rfl⟩) (pa_cons pe_str pa_nil))))))
  (pss_cons (ps_expr (pe_fn c_refuse_no_number hr (by decide) rfl (pa_cons (pv 1) (pa_cons pe_int (pa_cons (pv 0) (pa_cons pe_str pa_nil))))))
  (pss_cons (ps_comp (i := 2) nd rfl rfl rfl (compOk (N' := ["number", "size"]) (js := [none, some 0]) (N := ["size", "roads", "rows", "pairs", "above", "below"]) (sc := defScope s_rows_with) rfl rfl rfl (by decide +kernel) (by decide +kernel) (by decide +kernel) rfl (by decide +kernel)) rfl (pi_range1 rfl mrange (pa_cons (pe_fn c_many hr (by decide) rfl (pa_cons (pv 0) pa_nil)) pa_nil)) (fun _ _ _ _ _ => (pg_name (i := 0) (show [("number" : PySem.Str), ("size" : PySem.Str)].Nodup by decide +kernel) rfl (Or.inl rfl))) (fun _ _ _ _ _ => pf_nil) (fun _ _ _ _ _ => (pe_fn c_arcs_at hr (by decide) rfl (pa_cons (pv 1) (pa_cons (pv 0) pa_nil)))))
  (pss_cons (ps_set (i := 3) nd rfl (Or.inl rfl) pe_int)
  (pss_cons (ps_for PassesOwn.never rfl (pi_list (pv 2)) (pg_name (i := 4) nd rfl (Or.inl rfl)) (pss_one (ps_for PassesOwn.never rfl (pi_list (pv 2)) (pg_name (i := 5) nd rfl (Or.inl rfl)) (pss_one (ps_if (pt_cmpR op_eq (pe_fn c_many_roads hr (by decide) rfl (pa_cons (pv 4) (pa_cons (pv 5) pa_nil))) (pv 1) (nomark _)) (pss_one (ps_aug (i := 3) nd rfl (Or.inl rfl) pe_int ip_add)) pss_nil)))))
  (pss_one (ps_ret (pv 3)))))))), ?_⟩
  have wb := W_small m2
  (repeat (first | refine ⟨_, rfl, ?_⟩ | refine ⟨_, _, rfl, rfl, ?_⟩ | refine ⟨rfl, ?_⟩ | refine ⟨_, _, rfl, .inl (by assumption), ?_⟩ | refine ⟨Or.inl ⟨by decide, by decide⟩, ?_⟩ | refine ⟨(by show (0 : Int) < _; decide), ?_⟩ | refine ⟨⟨by decide, by decide⟩, ?_⟩))
  refine ⟨m, 1, 5, _, rfl, by omega, by omega, ?_⟩
  (repeat (first | refine ⟨_, rfl, ?_⟩ | refine ⟨_, _, rfl, rfl, ?_⟩ | refine ⟨rfl, ?_⟩ | refine ⟨_, _, rfl, .inl (by assumption), ?_⟩ | refine ⟨Or.inl ⟨by decide, by decide⟩, ?_⟩ | refine ⟨(by show (0 : Int) < _; decide), ?_⟩ | refine ⟨⟨by decide, by decide⟩, ?_⟩))
  refine ⟨k, 1, m, _, rfl, by omega, by omega, ?_⟩
  (repeat (first | refine ⟨_, rfl, ?_⟩ | refine ⟨_, _, rfl, rfl, ?_⟩ | refine ⟨rfl, ?_⟩ | refine ⟨_, _, rfl, .inl (by assumption), ?_⟩ | refine ⟨Or.inl ⟨by decide, by decide⟩, ?_⟩ | refine ⟨(by show (0 : Int) < _; decide), ?_⟩ | refine ⟨⟨by decide, by decide⟩, ?_⟩))
  refine ⟨m1, by omega, fun H1 S1 => ?_⟩
  (repeat (first | refine ⟨_, rfl, ?_⟩ | refine ⟨_, _, rfl, rfl, ?_⟩ | refine ⟨rfl, ?_⟩ | refine ⟨_, _, rfl, .inl (by assumption), ?_⟩ | refine ⟨Or.inl ⟨by decide, by decide⟩, ?_⟩ | refine ⟨(by show (0 : Int) < _; decide), ?_⟩ | refine ⟨⟨by decide, by decide⟩, ?_⟩))
  refine ⟨by omega, by omega, fun p hp => ?_⟩
  rw [Int.toNat_natCast]
  refine comp_inv (W m m) (fun i ys σ H' => ∃ (as : List Addr) (gs : List (Nat → Nat)), ys = as.map V.ref ∧ as.length = i ∧ Same H1 H' ∧ H' p = some (.lst ys) ∧ p ∉ as ∧ RowsAt H1 H' as (gs.map fun g => (List.range (2 * m)).map g) ∧ (∀ g, g ∈ gs → IsArcs (2 * m) g) ∧ gs.map (word (2 * m)) = (List.range i).map (un (2 * m) m m) ∧ ∃ u, σ = [u, some (.int m)]) (small60 (by omega)) ?_ ?_ ?_ (fun i ys σ H' hi _ => hi) (fun ys σ H' _ => Nat.le_refl _) ?_ ?_
  · exact ⟨[], [], rfl, rfl, same_upd_new hp _, upd_same, by simp, RowsAt.nil _ _, by simp, by simp, _, rfl⟩
  · rintro i ys σ H' ⟨as, gs, rfl, hl, _⟩
    rw [List.length_map, hl]
  · rintro i ys σ H' ⟨as, gs, _, _, _, h, _⟩
    exact h
  · rintro i x ys σ' H' H2 kk hi ⟨as, gs, rfl, hl, S2, e2, np, R, hgs, hws, u, rfl⟩ ⟨rfl, rfl⟩ hk
    have e0 : (0 : Int) + (i : Int) = i := by omega
    rw [e0]
    (repeat (first | refine ⟨_, rfl, ?_⟩ | refine ⟨_, _, rfl, rfl, ?_⟩ | refine ⟨rfl, ?_⟩ | refine ⟨_, _, rfl, .inl (by assumption), ?_⟩ | refine ⟨Or.inl ⟨by decide, by decide⟩, ?_⟩ | refine ⟨(by show (0 : Int) < _; decide), ?_⟩ | refine ⟨⟨by decide, by decide⟩, ?_⟩))
    refine ⟨m, i, rfl, m1, by omega, hi, fun l H3 g S3 hl3 hA hw e3 => ?_⟩
    have npl : p ≠ l := ne_of_none e2 hl3
    have e3' : H3 l = some (.lst ((ni ((List.range (2 * m)).map g)).map V.int)) := by rw [e3, ni_tab]
    refine hk _ _ _ (S3 _ _ e2) ⟨as ++ [l], gs ++ [g], by rw [List.map_append]; rfl, by simp [hl], (S2.trans S3).upd hp _, upd_same, by simp [np, npl], ?_, ?_, ?_, _, rfl⟩
    · rw [List.map_append]
      exact ((R.same S3).push e3' (S2.free hl3) (R.apart2 S3 hl3)).upd (by simp [np, npl])
    · intro g' hg'
      rcases List.mem_append.mp hg' with t | t
      · exact hgs g' t
      · simp at t; rw [t]; exact hA
    · rw [List.map_append, hws, List.range_succ, List.map_append]
      show _ ++ [word (2 * m) g] = _
      rw [hw]
      rfl
  rintro ys σ H2 ⟨as, gs, rfl, hl, S2, e2, np, R, hgs, hws, u, rfl⟩
  have gl : gs.length = W m m := by
    have := congrArg List.length hws
    simpa using this
  have rowat : ∀ {i : Nat} {x : Addr}, as[i]? = some x → ∃ g, gs[i]? = some g ∧ IsArcs (2 * m) g ∧ H2 x = some (.lst ((tab (2 * m) g).map V.int)) := fun {i x} hx => by
    obtain ⟨g, hg, e⟩ := R.arcs hx
    exact ⟨g, hg, hgs g (List.mem_of_getElem? hg), e⟩
  (repeat (first | refine ⟨_, rfl, ?_⟩ | refine ⟨_, _, rfl, rfl, ?_⟩ | refine ⟨rfl, ?_⟩ | refine ⟨_, _, rfl, .inl (by assumption), ?_⟩ | refine ⟨Or.inl ⟨by decide, by decide⟩, ?_⟩ | refine ⟨(by show (0 : Int) < _; decide), ?_⟩ | refine ⟨⟨by decide, by decide⟩, ?_⟩))
  refine ⟨⟨_, SqL.of e2⟩, ?_⟩
  refine for_list (xs := as.map V.ref) (fun i σ H' => Same H2 H' ∧ ∃ u v, σ = [some (.int m), some (.int k), some (.ref p), some (.int (cntP m k (gs.take i) gs : Nat)), u, v]) ⟨Same.refl _, _, _, by simp [cntP]; rfl⟩ (fun i σ H' _ h => SqL.of (h.1 _ _ e2)) ?_ ?_
  · rintro i x σ H3 hx ⟨S3, u, v, rfl⟩
    rw [List.getElem?_map] at hx
    obtain ⟨ax, hax, rfl⟩ := Option.map_eq_some_iff.mp hx
    obtain ⟨g, hg, hA, eg⟩ := rowat hax
    (repeat (first | refine ⟨_, rfl, ?_⟩ | refine ⟨_, _, rfl, rfl, ?_⟩ | refine ⟨rfl, ?_⟩ | refine ⟨_, _, rfl, .inl (by assumption), ?_⟩ | refine ⟨Or.inl ⟨by decide, by decide⟩, ?_⟩ | refine ⟨(by show (0 : Int) < _; decide), ?_⟩ | refine ⟨⟨by decide, by decide⟩, ?_⟩))
    refine ⟨⟨_, SqL.of (S3 _ _ e2)⟩, ?_⟩
    refine for_list (xs := as.map V.ref) (fun j σ H' => Same H2 H' ∧ ∃ v, σ = [some (.int m), some (.int k), some (.ref p), some (.int ((cntP m k (gs.take i) gs + cnt1 m k g (gs.take j) : Nat) : Int)), some (.ref ax), v]) ⟨S3, _, by simp [cnt1]; rfl⟩ (fun i σ H' _ h => SqL.of (h.1 _ _ e2)) ?_ ?_
    · rintro j x σ H4 hx ⟨S4, v, rfl⟩
      rw [List.getElem?_map] at hx
      obtain ⟨bx, hbx, rfl⟩ := Option.map_eq_some_iff.mp hx
      obtain ⟨b, hb, hB, eb⟩ := rowat hbx
      (repeat (first | refine ⟨_, rfl, ?_⟩ | refine ⟨_, _, rfl, rfl, ?_⟩ | refine ⟨rfl, ?_⟩ | refine ⟨_, _, rfl, .inl (by assumption), ?_⟩ | refine ⟨Or.inl ⟨by decide, by decide⟩, ?_⟩ | refine ⟨(by show (0 : Int) < _; decide), ?_⟩ | refine ⟨⟨by decide, by decide⟩, ?_⟩))
      refine ⟨ax, bx, 2 * m, g, b, rfl, SqL.of (S4 _ _ eg), SqL.of (S4 _ _ eb), hA, hB, by omega, by omega, by omega, fun H5 S5 => ?_⟩
      (repeat (first | refine ⟨_, rfl, ?_⟩ | refine ⟨_, _, rfl, rfl, ?_⟩ | refine ⟨rfl, ?_⟩ | refine ⟨_, _, rfl, .inl (by assumption), ?_⟩ | refine ⟨Or.inl ⟨by decide, by decide⟩, ?_⟩ | refine ⟨(by show (0 : Int) < _; decide), ?_⟩ | refine ⟨⟨by decide, by decide⟩, ?_⟩))
      refine ite2 (fun c => ?_) (fun c => ?_)
      · have c' : many (2 * m) g b = k := by have := eq_yes c; omega
        (repeat (first | refine ⟨_, rfl, ?_⟩ | refine ⟨_, _, rfl, rfl, ?_⟩ | refine ⟨rfl, ?_⟩ | refine ⟨_, _, rfl, .inl (by assumption), ?_⟩ | refine ⟨Or.inl ⟨by decide, by decide⟩, ?_⟩ | refine ⟨(by show (0 : Int) < _; decide), ?_⟩ | refine ⟨⟨by decide, by decide⟩, ?_⟩))
        refine ⟨S4.trans S5, some (.ref bx), ?_⟩
        rw [cnt1_take hb, if_pos c', ← Nat.add_assoc]
        rfl
      · have c' : ¬ many (2 * m) g b = k := fun z => eq_no c (by rw [z])
        refine ⟨S4.trans S5, some (.ref bx), ?_⟩
        rw [cnt1_take hb, if_neg c', Nat.add_zero]
        rfl
    · rintro σ H4 ⟨S4, v, rfl⟩
      refine ⟨S4, some (.ref ax), v, ?_⟩
      rw [cntP_take hg, List.length_map, hl, ← gl, List.take_length]
  · rintro σ H3 ⟨S3, u, v, rfl⟩
    (repeat (first | refine ⟨_, rfl, ?_⟩ | refine ⟨_, _, rfl, rfl, ?_⟩ | refine ⟨rfl, ?_⟩ | refine ⟨_, _, rfl, .inl (by assumption), ?_⟩ | refine ⟨Or.inl ⟨by decide, by decide⟩, ?_⟩ | refine ⟨(by show (0 : Int) < _; decide), ?_⟩ | refine ⟨⟨by decide, by decide⟩, ?_⟩))
    rw [List.length_map, hl, ← gl, List.take_length]
    exact q H3 gs (S1.trans (S2.trans S3)) hgs hws

def sp_law_cell_at (K : PySem.W.Frag) : Sp := fun vs H Q _ => ∃ (a : Addr) (ns : List Int) (k : Int), vs = [.ref a, .int k] ∧ SqL K H a (ns.map V.int) ∧ 0 ≤ k ∧ Q (.int (cellAt ns k)) H
theorem ok_law_cell_at (F : FunD K "_law_cell_at" "_law_cell_at" s_law_cell_at dV f fd) (mlen : mg "len" = none) : FnOk P w K mg base CX0 1 f fd ["script", "k"] (sp_law_cell_at K) := by
  refine F.ok (k := 0) sc_law_cell_at (fun vs H Q E h => ?_) (fun cdv A outer s H vs Q E hr h => ?_)
  · obtain ⟨_, _, _, rfl, _⟩ := h; rfl
  obtain ⟨a, ns, k, rfl, hS, h0, q⟩ := h
  have nd := sc_law_cell_at.nd
  refine ⟨_, (pss_cons (ps_if (pt_cmpR op_lt (pv 1) (pe_callB call_len_seq rfl mlen PySem.boot_len (pa_cons (pv 0) pa_nil)) (nomark _)) (pss_one (ps_ret (pe_ix ix_list (pv 0) (pv 1) (fun _ _ => rfl)))) pss_nil)
  (pss_one (ps_ret pe_int))), ?_⟩
  have hl : (ns.map V.int).length = ns.length := List.length_map _
  unfold cellAt at q
  (repeat (first | refine ⟨_, rfl, ?_⟩ | refine ⟨_, _, rfl, rfl, ?_⟩ | refine ⟨rfl, ?_⟩ | refine ⟨_, _, rfl, .inl (by assumption), ?_⟩ | refine ⟨Or.inl ⟨by decide, by decide⟩, ?_⟩ | refine ⟨(by show (0 : Int) < _; decide), ?_⟩ | refine ⟨⟨by decide, by decide⟩, ?_⟩))
  rw [hl]
  refine ite2 (fun c => ?_) (fun c => ?_)
  · have c' : k < ns.length := of_decide_eq_true c
    obtain ⟨v, hv⟩ : ∃ v, ns[k.toNat]? = some v := ⟨_, List.getElem?_eq_getElem (by omega)⟩
    (repeat (first | refine ⟨_, rfl, ?_⟩ | refine ⟨_, _, rfl, rfl, ?_⟩ | refine ⟨rfl, ?_⟩ | refine ⟨_, _, rfl, .inl (by assumption), ?_⟩ | refine ⟨Or.inl ⟨by decide, by decide⟩, ?_⟩ | refine ⟨(by show (0 : Int) < _; decide), ?_⟩ | refine ⟨⟨by decide, by decide⟩, ?_⟩))
    refine ⟨_, _, _, _, rfl, rfl, hS, atI_int h0 hv, ?_⟩
    exact toI q (by rw [List.getD_eq_getElem?_getD, hv]; rfl)
  · have c' : ¬ k < ns.length := fun z => c (decide_eq_true z)
    exact toI q (by rw [List.getD_eq_getElem?_getD, List.getElem?_eq_none (by omega)]; rfl)

def sp_law_whole : Sp := fun vs H Q _ => ∃ i : Int, vs = [.int i] ∧ Q (.bl true) H
theorem ok_law_whole (F : FunD K "_law_whole" "_law_whole" s_law_whole dV f fd) (kib : PySem.W.kitOne K (.type "int") (.type "bool") = some false) (misinstance : mg "isinstance" = none) (mint : mg "int" = none) (mbool : mg "bool" = none) : FnOk P w K mg base CX0 1 f fd ["found"] sp_law_whole := by
  refine F.ok (k := 0) sc_law_whole (fun vs H Q E h => ?_) (fun cdv A outer s H vs Q E hr h => ?_)
  · obtain ⟨_, rfl, _⟩ := h; rfl
  obtain ⟨i, rfl, q⟩ := h
  have nd := sc_law_whole.nd
  refine ⟨_, (pss_one (ps_ret (pe_and (pe_callB call_inst rfl misinstance PyProof.Rows.boot_isinstance (pa_cons (pv 0) (pa_cons (pe_bltn (v := .ty "int") rfl mint PyProof.Rows.boot_int rfl) pa_nil))) (pe_one (pe_not (pe_callB call_inst rfl misinstance PyProof.Rows.boot_isinstance (pa_cons (pv 0) (pa_cons (pe_bltn (v := .ty "bool") rfl mbool PyProof.Rows.boot_bool rfl) pa_nil)))))))), ?_⟩
  (repeat (first | refine ⟨_, rfl, ?_⟩ | refine ⟨_, _, rfl, rfl, ?_⟩ | refine ⟨rfl, ?_⟩ | refine ⟨_, _, rfl, .inl (by assumption), ?_⟩ | refine ⟨Or.inl ⟨by decide, by decide⟩, ?_⟩ | refine ⟨(by show (0 : Int) < _; decide), ?_⟩ | refine ⟨⟨by decide, by decide⟩, ?_⟩))
  refine ⟨_, _, _, true, rfl, TyOf.int i, rfl, ?_⟩
  (repeat (first | refine ⟨_, rfl, ?_⟩ | refine ⟨_, _, rfl, rfl, ?_⟩ | refine ⟨rfl, ?_⟩ | refine ⟨_, _, rfl, .inl (by assumption), ?_⟩ | refine ⟨Or.inl ⟨by decide, by decide⟩, ?_⟩ | refine ⟨(by show (0 : Int) < _; decide), ?_⟩ | refine ⟨⟨by decide, by decide⟩, ?_⟩))
  (try refine iteT ?_)
  (repeat (first | refine ⟨_, rfl, ?_⟩ | refine ⟨_, _, rfl, rfl, ?_⟩ | refine ⟨rfl, ?_⟩ | refine ⟨_, _, rfl, .inl (by assumption), ?_⟩ | refine ⟨Or.inl ⟨by decide, by decide⟩, ?_⟩ | refine ⟨(by show (0 : Int) < _; decide), ?_⟩ | refine ⟨⟨by decide, by decide⟩, ?_⟩))
  refine ⟨_, _, _, false, rfl, TyOf.int i, kib, ?_⟩
  (repeat (first | refine ⟨_, rfl, ?_⟩ | refine ⟨_, _, rfl, rfl, ?_⟩ | refine ⟨rfl, ?_⟩ | refine ⟨_, _, rfl, .inl (by assumption), ?_⟩ | refine ⟨Or.inl ⟨by decide, by decide⟩, ?_⟩ | refine ⟨(by show (0 : Int) < _; decide), ?_⟩ | refine ⟨⟨by decide, by decide⟩, ?_⟩))
  exact q

def sp_law_roads (K : PySem.W.Frag) : Sp := fun vs H Q _ => ∃ (p q : Addr) (n : Nat) (a b : Nat → Nat), vs = [.ref p, .ref q] ∧ SqL K H p ((tab n a).map V.int) ∧ SqL K H q ((tab n b).map V.int) ∧ Pairs n a ∧ Pairs n b ∧ n ≤ 40 ∧
  ∀ (r : Addr) (H' : Hp) (as : List Addr), Same H H' → H r = none → H' r = some (.lst (as.map V.ref)) → r ∉ as → RowsAt H H' as ((scan (way a b) [] n).map (way a b)) → Q (.ref r) H'
theorem ok_law_roads (F : FunD K "_law_roads" "_law_roads" s_law_roads dV f fd) (mlen : mg "len" = none) (mrange : mg "range" = none) (mlist : mg "list" = none) : FnOk P w K mg base CX0 1 f fd ["above", "below"] (sp_law_roads K) := by
  refine F.ok (k := 0) sc_law_roads (fun vs H Q E h => ?_) (fun cdv A outer s H vs Q E hr h => ?_)
  · obtain ⟨_, _, _, _, _, rfl, _⟩ := h; rfl
  obtain ⟨p, q, n, a, b, rfl, hP, hQ, hA, hB, h1, qq⟩ := h
  have nd := sc_law_roads.nd
  refine ⟨_, (pss_cons (ps_set (i := 2) nd rfl (Or.inl rfl) (pe_lst pa_nil))
  (pss_cons (ps_set (i := 3) nd rfl (Or.inl rfl) (pe_listRange rfl rfl mlist rfl mrange (pa_cons (pe_callB call_len_seq rfl mlen PySem.boot_len (pa_cons (pv 0) pa_nil)) pa_nil)))
  (pss_cons (ps_while PassesOwn.never (pt_cmpR op_gt (pe_callB call_len_seq rfl mlen PySem.boot_len (pa_cons (pv 3) pa_nil)) pe_int (nomark _)) (pss_cons (ps_set (i := 4) nd rfl (Or.inl rfl) (pe_lst pa_nil))
  (pss_cons (ps_set (i := 5) nd rfl (Or.inl rfl) (pe_ix ix_list (pv 3) pe_int (fun _ _ => rfl)))
  (pss_cons (ps_while PassesOwn.never (pt_cmpR op_in_seq (pv 5) (pv 3) (by with_unfolding_all rfl)) (pss_cons (ps_expr (pe_bm PySem.F.plainAttrs_list PySem.F.slot_list_remove PySem.F.type_list_remove mt_remove (pv 3) (pa_cons (pv 5) pa_nil)))
  (pss_cons (ps_expr (pe_bm PySem.F.plainAttrs_list PySem.F.slot_list_remove PySem.F.type_list_remove mt_remove (pv 3) (pa_cons (pe_ix ix_list (pv 0) (pv 5) (fun _ _ => rfl)) pa_nil)))
  (pss_cons (ps_set (i := 4) nd rfl (Or.inl rfl) (pe_op op_cat (pv 4) (pe_lst (pa_cons (pv 5) (pa_cons (pe_ix ix_list (pv 0) (pv 5) (fun _ _ => rfl)) pa_nil)))))
  (pss_one (ps_set (i := 5) nd rfl (Or.inl rfl) (pe_ix ix_list (pv 1) (pe_ix ix_list (pv 0) (pv 5) (fun _ _ => rfl)) (fun _ _ => rfl))))))))
  (pss_one (ps_expr (pe_bm PySem.F.plainAttrs_list PySem.F.slot_list_append PySem.F.type_list_append mt_append (pv 2) (pa_cons (pv 4) pa_nil))))))))
  (pss_one (ps_ret (pv 2)))))), ?_⟩
  have hlp : ((tab n a).map V.int).length = n := by rw [List.length_map, tab_length]
  have la : ∀ {y : Nat}, y < n → atI ((tab n a).map V.int) (y : Int) = some (.int (a y : Nat)) := fun {y} hy => atI_int (by omega) (by rw [Int.toNat_natCast]; exact tab_get hy)
  have lb : ∀ {y : Nat}, y < n → atI ((tab n b).map V.int) (y : Int) = some (.int (b y : Nat)) := fun {y} hy => atI_int (by omega) (by rw [Int.toNat_natCast]; exact tab_get hy)
  (repeat (first | refine ⟨_, rfl, ?_⟩ | refine ⟨_, _, rfl, rfl, ?_⟩ | refine ⟨rfl, ?_⟩ | refine ⟨_, _, rfl, .inl (by assumption), ?_⟩ | refine ⟨Or.inl ⟨by decide, by decide⟩, ?_⟩ | refine ⟨(by show (0 : Int) < _; decide), ?_⟩ | refine ⟨⟨by decide, by decide⟩, ?_⟩))
  refine ⟨by decide, fun lf hlf => ?_⟩
  have S1 := same_upd_new hlf (.lst [])
  have hP1 := S1.seq hP
  (repeat (first | refine ⟨_, rfl, ?_⟩ | refine ⟨_, _, rfl, rfl, ?_⟩ | refine ⟨rfl, ?_⟩ | refine ⟨_, _, rfl, .inl (by assumption), ?_⟩ | refine ⟨Or.inl ⟨by decide, by decide⟩, ?_⟩ | refine ⟨(by show (0 : Int) < _; decide), ?_⟩ | refine ⟨⟨by decide, by decide⟩, ?_⟩))
  rw [hlp]
  refine ⟨by omega, by omega, fun ll hll => ?_⟩
  have S2 := same_upd_new hll (.lst ((List.range (n : Int).toNat).map fun i => V.int (i : Nat)))
  have nfl : lf ≠ ll := fun z => by rw [z, upd_same] at hll; cases hll
  have hll0 : H ll = none := S1.free hll
  have SS := S1.trans S2
  (repeat (first | refine ⟨_, rfl, ?_⟩ | refine ⟨_, _, rfl, rfl, ?_⟩ | refine ⟨rfl, ?_⟩ | refine ⟨_, _, rfl, .inl (by assumption), ?_⟩ | refine ⟨Or.inl ⟨by decide, by decide⟩, ?_⟩ | refine ⟨(by show (0 : Int) < _; decide), ?_⟩ | refine ⟨⟨by decide, by decide⟩, ?_⟩))
  refine ⟨fun m σ H' => ∃ i as, i ≤ n ∧ m = n - i ∧ Same H H' ∧ H' lf = some (.lst (as.map V.ref)) ∧ H' ll = some (.lst ((ni (leftL n (metL a b i))).map V.int)) ∧ RowsAt H H' as ((scan (way a b) [] i).map (way a b)) ∧ lf ∉ as ∧ ll ∉ as ∧ as.length ≤ i ∧ ∃ u v, σ = [some (.ref p), some (.ref q), some (.ref lf), some (.ref ll), u, v],
    ⟨_, 0, [], Nat.zero_le _, rfl, SS, by rw [upd_ne nfl, upd_same]; rfl, ?_, RowsAt.nil _ _, by simp, by simp, by simp, _, _, rfl⟩, ?_⟩
  · rw [upd_same, Int.toNat_natCast, show metL a b 0 = [] from rfl, left_all]
    unfold ni
    rw [List.map_map]
    rfl
  rintro m σ H3 ⟨i, as, hi, rfl, S3, e1, e2, R, n1, n2, hz, u, v, rfl⟩
  (repeat (first | refine ⟨_, rfl, ?_⟩ | refine ⟨_, _, rfl, rfl, ?_⟩ | refine ⟨rfl, ?_⟩ | refine ⟨_, _, rfl, .inl (by assumption), ?_⟩ | refine ⟨Or.inl ⟨by decide, by decide⟩, ?_⟩ | refine ⟨(by show (0 : Int) < _; decide), ?_⟩ | refine ⟨⟨by decide, by decide⟩, ?_⟩))
  refine ⟨ll, _, rfl, .inl (SqL.of e2), ?_⟩
  (repeat (first | refine ⟨_, rfl, ?_⟩ | refine ⟨_, _, rfl, rfl, ?_⟩ | refine ⟨rfl, ?_⟩ | refine ⟨_, _, rfl, .inl (by assumption), ?_⟩ | refine ⟨Or.inl ⟨by decide, by decide⟩, ?_⟩ | refine ⟨(by show (0 : Int) < _; decide), ?_⟩ | refine ⟨⟨by decide, by decide⟩, ?_⟩))
  refine ite2 (fun y => ?_) (fun y => ?_)
  · obtain ⟨x, rest, hx⟩ : ∃ x rest, leftL n (metL a b i) = x :: rest := by
      cases e : leftL n (metL a b i) with
      | nil => rw [e] at y; simp [ni] at y
      | cons x r => exact ⟨x, r, rfl⟩
    obtain ⟨hxn, hxm, hxl⟩ := left_head hx
    obtain ⟨hix, sc⟩ := scan_next (a := a) (b := b) hxm hxl
    have lt := itr_lt hA hB.invo hxn
    refine ⟨_, fun σ' H' h => h, ?_⟩
    (repeat (first | refine ⟨_, rfl, ?_⟩ | refine ⟨_, _, rfl, rfl, ?_⟩ | refine ⟨rfl, ?_⟩ | refine ⟨_, _, rfl, .inl (by assumption), ?_⟩ | refine ⟨Or.inl ⟨by decide, by decide⟩, ?_⟩ | refine ⟨(by show (0 : Int) < _; decide), ?_⟩ | refine ⟨⟨by decide, by decide⟩, ?_⟩))
    refine ⟨by decide, fun lr hlr => ?_⟩
    have S4 := same_upd_new hlr (.lst [])
    have hlr0 : H lr = none := S3.free hlr
    have f2 := S4 _ _ e2
    (repeat (first | refine ⟨_, rfl, ?_⟩ | refine ⟨_, _, rfl, rfl, ?_⟩ | refine ⟨rfl, ?_⟩ | refine ⟨_, _, rfl, .inl (by assumption), ?_⟩ | refine ⟨Or.inl ⟨by decide, by decide⟩, ?_⟩ | refine ⟨(by show (0 : Int) < _; decide), ?_⟩ | refine ⟨⟨by decide, by decide⟩, ?_⟩))
    refine ⟨ll, _, _, .int (x : Nat), rfl, rfl, SqL.of f2, ?_, ?_⟩
    · rw [hx]; exact atI_nat (j := 0) rfl
    (repeat (first | refine ⟨_, rfl, ?_⟩ | refine ⟨_, _, rfl, rfl, ?_⟩ | refine ⟨rfl, ?_⟩ | refine ⟨_, _, rfl, .inl (by assumption), ?_⟩ | refine ⟨Or.inl ⟨by decide, by decide⟩, ?_⟩ | refine ⟨(by show (0 : Int) < _; decide), ?_⟩ | refine ⟨⟨by decide, by decide⟩, ?_⟩))
    have hst := stopAt_lt hA hB.invo hxn
    refine ⟨fun m σ H' => ∃ j lr, j ≤ stopAt a b x + 1 ∧ m = stopAt a b x + 1 - j ∧ Same H H' ∧ H' lf = some (.lst (as.map V.ref)) ∧ H' ll = some (.lst ((ni (leftL n (metL a b i ++ wayL a b x j))).map V.int)) ∧ H' lr = some (.lst ((ni (wayL a b x j)).map V.int)) ∧ RowsAt H H' as ((scan (way a b) [] i).map (way a b)) ∧ lr ≠ lf ∧ lr ≠ ll ∧ lr ∉ as ∧ H lr = none ∧ σ = [some (.ref p), some (.ref q), some (.ref lf), some (.ref ll), some (.ref lr), some (.int (itr a b x j : Nat))],
      ⟨_, 0, lr, by omega, rfl, S3.trans S4, S4 _ _ e1, ?_, by rw [upd_same]; rfl, R.same S4, (ne_of_none e1 hlr).symm, (ne_of_none e2 hlr).symm, R.apart2 S4 hlr, hlr0, rfl⟩, ?_⟩
    · rw [show wayL a b x 0 = [] from rfl, List.append_nil]; exact f2
    rintro m σ H5 ⟨j, lr, hj, rfl, S5, g1, g2, g3, R5, d1, d2, d3, hlr0, rfl⟩
    (repeat (first | refine ⟨_, rfl, ?_⟩ | refine ⟨_, _, rfl, rfl, ?_⟩ | refine ⟨rfl, ?_⟩ | refine ⟨_, _, rfl, .inl (by assumption), ?_⟩ | refine ⟨Or.inl ⟨by decide, by decide⟩, ?_⟩ | refine ⟨(by show (0 : Int) < _; decide), ?_⟩ | refine ⟨⟨by decide, by decide⟩, ?_⟩))
    refine ⟨ll, _, rfl, .inl (SqL.of g2), rfl, flat_ints _, ?_⟩
    rw [if_neg Bool.false_ne_true, inV_ni]
    by_cases c : j ≤ stopAt a b x
    · obtain ⟨w1, w2⟩ := itr_way (a := a) (b := b) c
      obtain ⟨v1, v2⟩ := step_new hA hB hxn c
      have m1 := fresh_way hA hB hi hxn hxm w1
      have m2 := fresh_way hA hB hi hxn hxm w2
      have inL : itr a b x j ∈ leftL n (metL a b i ++ wayL a b x j) := mem_left.mpr ⟨lt j, by rw [List.mem_append]; rintro (z | z); exact m1 z; exact v1 z⟩
      have inL2 : a (itr a b x j) ∈ leftL n (metL a b i ++ wayL a b x j ++ [itr a b x j]) := mem_left.mpr ⟨hA.lt _ (lt j), by
        rw [List.mem_append, List.mem_append]
        rintro ((z | z) | z)
        · exact m2 z
        · exact v2 z
        · simp at z; exact hA.ne _ (lt j) z⟩
      refine ⟨true, by rw [decide_eq_true inL], iteT ?_⟩
      refine ⟨_, fun σ' H' h => h, ?_⟩
      (repeat (first | refine ⟨_, rfl, ?_⟩ | refine ⟨_, _, rfl, rfl, ?_⟩ | refine ⟨rfl, ?_⟩ | refine ⟨_, _, rfl, .inl (by assumption), ?_⟩ | refine ⟨Or.inl ⟨by decide, by decide⟩, ?_⟩ | refine ⟨(by show (0 : Int) < _; decide), ?_⟩ | refine ⟨⟨by decide, by decide⟩, ?_⟩))
      refine ⟨.inl ⟨rfl, _, SqL.of g2⟩, ?_⟩
      (repeat (first | refine ⟨_, rfl, ?_⟩ | refine ⟨_, _, rfl, rfl, ?_⟩ | refine ⟨rfl, ?_⟩ | refine ⟨_, _, rfl, .inl (by assumption), ?_⟩ | refine ⟨Or.inl ⟨by decide, by decide⟩, ?_⟩ | refine ⟨(by show (0 : Int) < _; decide), ?_⟩ | refine ⟨⟨by decide, by decide⟩, ?_⟩))
      refine ⟨ll, _, _, rfl, rfl, g2, mem_ni.mpr inL, ?_⟩
      rw [ni_erase, left_erase]
      have S6 := S5.upd hll0 (.lst ((ni (leftL n (metL a b i ++ wayL a b x j ++ [itr a b x j]))).map V.int))
      (repeat (first | refine ⟨_, rfl, ?_⟩ | refine ⟨_, _, rfl, rfl, ?_⟩ | refine ⟨rfl, ?_⟩ | refine ⟨_, _, rfl, .inl (by assumption), ?_⟩ | refine ⟨Or.inl ⟨by decide, by decide⟩, ?_⟩ | refine ⟨(by show (0 : Int) < _; decide), ?_⟩ | refine ⟨⟨by decide, by decide⟩, ?_⟩))
      refine ⟨.inl ⟨rfl, _, SqL.of upd_same⟩, ?_⟩
      (repeat (first | refine ⟨_, rfl, ?_⟩ | refine ⟨_, _, rfl, rfl, ?_⟩ | refine ⟨rfl, ?_⟩ | refine ⟨_, _, rfl, .inl (by assumption), ?_⟩ | refine ⟨Or.inl ⟨by decide, by decide⟩, ?_⟩ | refine ⟨(by show (0 : Int) < _; decide), ?_⟩ | refine ⟨⟨by decide, by decide⟩, ?_⟩))
      refine ⟨p, _, _, _, rfl, rfl, S6.seq hP, la (lt j), ?_⟩
      (repeat (first | refine ⟨_, rfl, ?_⟩ | refine ⟨_, _, rfl, rfl, ?_⟩ | refine ⟨rfl, ?_⟩ | refine ⟨_, _, rfl, .inl (by assumption), ?_⟩ | refine ⟨Or.inl ⟨by decide, by decide⟩, ?_⟩ | refine ⟨(by show (0 : Int) < _; decide), ?_⟩ | refine ⟨⟨by decide, by decide⟩, ?_⟩))
      refine ⟨ll, _, _, rfl, rfl, upd_same, mem_ni.mpr inL2, ?_⟩
      rw [ni_erase, left_erase]
      have S7 := S6.upd hll0 (.lst ((ni (leftL n (metL a b i ++ wayL a b x j ++ [itr a b x j] ++ [a (itr a b x j)]))).map V.int))
      (repeat (first | refine ⟨_, rfl, ?_⟩ | refine ⟨_, _, rfl, rfl, ?_⟩ | refine ⟨rfl, ?_⟩ | refine ⟨_, _, rfl, .inl (by assumption), ?_⟩ | refine ⟨Or.inl ⟨by decide, by decide⟩, ?_⟩ | refine ⟨(by show (0 : Int) < _; decide), ?_⟩ | refine ⟨⟨by decide, by decide⟩, ?_⟩))
      refine ⟨p, _, _, _, rfl, rfl, S7.seq hP, la (lt j), ?_⟩
      (repeat (first | refine ⟨_, rfl, ?_⟩ | refine ⟨_, _, rfl, rfl, ?_⟩ | refine ⟨rfl, ?_⟩ | refine ⟨_, _, rfl, .inl (by assumption), ?_⟩ | refine ⟨Or.inl ⟨by decide, by decide⟩, ?_⟩ | refine ⟨(by show (0 : Int) < _; decide), ?_⟩ | refine ⟨⟨by decide, by decide⟩, ?_⟩))
      refine ⟨(by show 2 ≤ sizeLine; decide), fun lt2 hlt2 => ?_⟩
      have S8 := S7.trans (same_upd_new hlt2 (.lst [.int (itr a b x j : Nat), .int (a (itr a b x j) : Nat)]))
      have k3 : upd (upd H5 ll (.lst ((ni (leftL n (metL a b i ++ wayL a b x j ++ [itr a b x j]))).map V.int))) ll (.lst ((ni (leftL n (metL a b i ++ wayL a b x j ++ [itr a b x j] ++ [a (itr a b x j)]))).map V.int)) lr = some (.lst ((ni (wayL a b x j)).map V.int)) := by rw [upd_ne d2, upd_ne d2]; exact g3
      have k1 : upd (upd H5 ll (.lst ((ni (leftL n (metL a b i ++ wayL a b x j ++ [itr a b x j]))).map V.int))) ll (.lst ((ni (leftL n (metL a b i ++ wayL a b x j ++ [itr a b x j] ++ [a (itr a b x j)]))).map V.int)) lf = some (.lst (as.map V.ref)) := by rw [upd_ne nfl, upd_ne nfl]; exact g1
      have R7 := (R5.upd (o := .lst ((ni (leftL n (metL a b i ++ wayL a b x j ++ [itr a b x j]))).map V.int)) n2).upd (o := .lst ((ni (leftL n (metL a b i ++ wayL a b x j ++ [itr a b x j] ++ [a (itr a b x j)]))).map V.int)) n2
      have k2 : upd (upd H5 ll (.lst ((ni (leftL n (metL a b i ++ wayL a b x j ++ [itr a b x j]))).map V.int))) ll (.lst ((ni (leftL n (metL a b i ++ wayL a b x j ++ [itr a b x j] ++ [a (itr a b x j)]))).map V.int)) ll = some (.lst ((ni (leftL n (metL a b i ++ wayL a b x j ++ [itr a b x j] ++ [a (itr a b x j)]))).map V.int)) := upd_same
      generalize upd (upd H5 ll (.lst ((ni (leftL n (metL a b i ++ wayL a b x j ++ [itr a b x j]))).map V.int))) ll (.lst ((ni (leftL n (metL a b i ++ wayL a b x j ++ [itr a b x j] ++ [a (itr a b x j)]))).map V.int)) = H7 at hlt2 S8 S7 k1 k2 k3 R7 ⊢
      have T1 := same_upd_new hlt2 (.lst [.int (itr a b x j : Nat), .int (a (itr a b x j) : Nat)])
      refine ⟨lr, lt2, _, _, rfl, rfl, T1 _ _ k3, upd_same, ?_, fun lr2 hlr2 => ?_⟩
      · rw [ni_len, wayL_length]; exact small60 (by simp; omega)
      have T2 := T1.trans (same_upd_new hlr2 (.lst ((ni (wayL a b x j)).map V.int ++ [.int (itr a b x j : Nat), .int (a (itr a b x j) : Nat)])))
      (repeat (first | refine ⟨_, rfl, ?_⟩ | refine ⟨_, _, rfl, rfl, ?_⟩ | refine ⟨rfl, ?_⟩ | refine ⟨_, _, rfl, .inl (by assumption), ?_⟩ | refine ⟨Or.inl ⟨by decide, by decide⟩, ?_⟩ | refine ⟨(by show (0 : Int) < _; decide), ?_⟩ | refine ⟨⟨by decide, by decide⟩, ?_⟩))
      refine ⟨p, _, _, _, rfl, rfl, (S7.trans T2).seq hP, la (lt j), ?_⟩
      (repeat (first | refine ⟨_, rfl, ?_⟩ | refine ⟨_, _, rfl, rfl, ?_⟩ | refine ⟨rfl, ?_⟩ | refine ⟨_, _, rfl, .inl (by assumption), ?_⟩ | refine ⟨Or.inl ⟨by decide, by decide⟩, ?_⟩ | refine ⟨(by show (0 : Int) < _; decide), ?_⟩ | refine ⟨⟨by decide, by decide⟩, ?_⟩))
      refine ⟨q, _, _, _, rfl, rfl, (S7.trans T2).seq hQ, lb (hA.lt _ (lt j)), ?_⟩
      have f0 := T1.free hlr2
      refine ⟨stopAt a b x + 1 - (j + 1), by omega, j + 1, lr2, by omega, rfl, S7.trans T2, T2 _ _ k1, ?_, ?_, R7.same T2, (ne_of_none k1 f0).symm, (ne_of_none k2 f0).symm, R7.apart2 T2 f0, S7.free f0, rfl⟩
      · rw [T2 _ _ k2, show wayL a b x (j + 1) = wayL a b x j ++ [itr a b x j, a (itr a b x j)] from rfl]
        simp
      · rw [upd_same, show wayL a b x (j + 1) = wayL a b x j ++ [itr a b x j, a (itr a b x j)] from rfl, nv_append]
        rfl
    · have ej : j = stopAt a b x + 1 := by omega
      subst ej
      have ex : itr a b x (stopAt a b x + 1) = x := last_step hA hB hxn
      have no : itr a b x (stopAt a b x + 1) ∉ leftL n (metL a b i ++ wayL a b x (stopAt a b x + 1)) := fun z => (mem_left.mp z).2 (List.mem_append_right _ (by rw [ex]; exact way_self x))
      refine ⟨false, by rw [decide_eq_false no], iteF ?_⟩
      (repeat (first | refine ⟨_, rfl, ?_⟩ | refine ⟨_, _, rfl, rfl, ?_⟩ | refine ⟨rfl, ?_⟩ | refine ⟨_, _, rfl, .inl (by assumption), ?_⟩ | refine ⟨Or.inl ⟨by decide, by decide⟩, ?_⟩ | refine ⟨(by show (0 : Int) < _; decide), ?_⟩ | refine ⟨⟨by decide, by decide⟩, ?_⟩))
      refine ⟨.inl ⟨rfl, _, SqL.of g1⟩, ?_⟩
      (repeat (first | refine ⟨_, rfl, ?_⟩ | refine ⟨_, _, rfl, rfl, ?_⟩ | refine ⟨rfl, ?_⟩ | refine ⟨_, _, rfl, .inl (by assumption), ?_⟩ | refine ⟨Or.inl ⟨by decide, by decide⟩, ?_⟩ | refine ⟨(by show (0 : Int) < _; decide), ?_⟩ | refine ⟨⟨by decide, by decide⟩, ?_⟩))
      refine ⟨lf, _, _, rfl, rfl, g1, by rw [List.length_map]; exact small1000 (by omega), ?_⟩
      refine ⟨n - (x + 1), by omega, x + 1, as ++ [lr], by omega, rfl, S5.upd hlf _, ?_, ?_, ?_, ?_, ?_, ?_, _, _, rfl⟩
      · rw [upd_same, List.map_append]; rfl
      · rw [upd_ne (Ne.symm nfl), g2, metL_next sc]; rfl
      · rw [sc, List.map_append]
        exact (R5.push g3 hlr0 d3).upd (by simp [n1, Ne.symm d1])
      · simp [n1, Ne.symm d1]
      · simp [n2, Ne.symm d2]
      · simp; omega
  · have en : leftL n (metL a b i) = [] := by
      cases e : leftL n (metL a b i) with
      | nil => rfl
      | cons x r => exfalso; apply y; rw [e]; simp [ni]
    have sl := scan_last hi (left_none en)
    (repeat (first | refine ⟨_, rfl, ?_⟩ | refine ⟨_, _, rfl, rfl, ?_⟩ | refine ⟨rfl, ?_⟩ | refine ⟨_, _, rfl, .inl (by assumption), ?_⟩ | refine ⟨Or.inl ⟨by decide, by decide⟩, ?_⟩ | refine ⟨(by show (0 : Int) < _; decide), ?_⟩ | refine ⟨⟨by decide, by decide⟩, ?_⟩))
    refine qq lf H3 as S3 hlf e1 n1 ?_
    rw [sl]
    exact R

def sp_law_all : Sp := fun vs H Q _ => ∃ (m : Nat), vs = [.int m] ∧ 1 ≤ m ∧ m ≤ 5 ∧ ∀ (r : Addr) (H' : Hp) (as : List Addr) (gs : List (Nat → Nat)), Same H H' → H r = none → H' r = some (.lst (as.map V.ref)) → r ∉ as → RowsAt H H' as (gs.map fun g => (List.range (2 * m)).map g) → (∀ g, g ∈ gs → IsArcs (2 * m) g) → gs.map (word (2 * m)) = (List.range (W m m)).map (un (2 * m) m m) → Q (.ref r) H'
-- CUT 2
theorem take_step {m k i : Nat} {e : List Nat × Nat} (he : (wl m k)[i]? = some e) : ((wl m k).take (i + 1)).flatMap (stepW m k) = ((wl m k).take i).flatMap (stepW m k) ++ stepW m k e := by
  rw [List.take_succ, he, List.flatMap_append]
  simp
section
variable {cdv : Value} {A : Around} {outer : List Env} {s : Shared} {H0 : Hp} {Q : VK} {E : XK}
theorem all_rows (hr : Room 0 (A.deeper (PyProof.Rows.envOfC "_law_all" (defScope s_law_all) s.heap.objs.size f cdv))) (mlen : mg "len" = none) (mrange : mg "range" = none) :
    ∃ t : TS, PSs (cxOf CX0 P w K mg base ["size", "words", "k", "longer", "word", "depth", "found", "row", "ahead"] "_law_all" (defScope s_law_all) f cdv A outer s H0 E).nox ((defBody s_law_all).drop 2) t ∧
      ∀ (H H1 : Hp) (m : Nat) (lw : Addr) (as : List Addr) (u v x y : Option V), 1 ≤ m → m ≤ 5 → Same H H1 → H1 lw = some (.lst (as.map V.ref)) → Tups H1 as (wl m (2 * m)) →
        (∀ (r : Addr) (H' : Hp) (as : List Addr) (gs : List (Nat → Nat)), Same H H' → H r = none → H' r = some (.lst (as.map V.ref)) → r ∉ as → RowsAt H H' as (gs.map fun g => (List.range (2 * m)).map g) → (∀ g, g ∈ gs → IsArcs (2 * m) g) → gs.map (word (2 * m)) = (List.range (W m m)).map (un (2 * m) m m) → Q (.ref r) H') →
        t { nx := fun _ H' => Q .non H', rt := Q } [some (.int m), some (.ref lw), u, v, x, y, none, none, none] H1 := by
  have nd := sc_law_all.nd
  refine ⟨_, (pss_cons (ps_set (i := 6) nd rfl (Or.inl rfl) (pe_lst pa_nil))
  (pss_cons (ps_for PassesOwn.never rfl (pi_list (pv 1)) (pg_tup rfl (pgs_cons (pg_name (i := 4) nd rfl (Or.inl rfl)) (pgs_cons (pg_name (i := 5) nd rfl (Or.inl rfl)) pgs_nil))) (pss_cons (ps_set (i := 7) nd rfl (Or.inl rfl) (pe_op op_rep (pe_lst (pa_cons pe_int pa_nil)) (pe_callB call_len_str rfl mlen PySem.boot_len (pa_cons (pv 4) pa_nil))))
  (pss_cons (ps_set (i := 8) nd rfl (Or.inl rfl) (pe_lst pa_nil))
  (pss_cons (ps_for PassesOwn.never rfl (pi_range1 rfl mrange (pa_cons (pe_callB call_len_str rfl mlen PySem.boot_len (pa_cons (pv 4) pa_nil)) pa_nil)) (pg_name (i := 2) nd rfl (Or.inl rfl)) (pss_one (ps_if (pt_cmpR op_eq (pe_ix ix_str (pv 4) (pv 2) (fun _ _ => rfl)) pe_str (nomark _)) (pss_one (ps_expr (pe_bm PySem.F.plainAttrs_list PySem.F.slot_list_append PySem.F.type_list_append mt_append (pv 8) (pa_cons (pv 2) pa_nil)))) (pss_cons (ps_asg (pe_bm0 PySem.F.plainAttrs_list PySem.F.slot_list_pop PySem.F.type_list_pop mt_pop (pv 8)) (pg_sub (pv 7) (pv 2) set_list))
  (pss_one (ps_asg (pv 2) (pg_sub (pv 7) (pe_ix ix_list (pv 7) (pv 2) (fun _ _ => rfl)) set_list)))))))
  (pss_one (ps_expr (pe_bm PySem.F.plainAttrs_list PySem.F.slot_list_append PySem.F.type_list_append mt_append (pv 6) (pa_cons (pv 7) pa_nil))))))))
  (pss_one (ps_ret (pv 6))))), ?_⟩
  intro H H1 m lw as u v x y h1 h2 S1 hlw hT q
  (repeat (first | refine ⟨_, rfl, ?_⟩ | refine ⟨_, _, rfl, rfl, ?_⟩ | refine ⟨rfl, ?_⟩ | refine ⟨_, _, rfl, .inl (by assumption), ?_⟩ | refine ⟨Or.inl ⟨by decide, by decide⟩, ?_⟩ | refine ⟨(by show (0 : Int) < _; decide), ?_⟩ | refine ⟨⟨by decide, by decide⟩, ?_⟩))
  refine ⟨by decide, fun lf hlf => ?_⟩
  have S2 := same_upd_new hlf (.lst [])
  have zlf : H lf = none := S1.free hlf
  have wlen : (wl m (2 * m)).length ≤ 1024 := Nat.le_trans (wl_len m (2 * m)) (by
    have : 2 ^ (2 * m) ≤ 2 ^ 10 := Nat.pow_le_pow_right (by omega) (by omega)
    exact this)
  (repeat (first | refine ⟨_, rfl, ?_⟩ | refine ⟨_, _, rfl, rfl, ?_⟩ | refine ⟨rfl, ?_⟩ | refine ⟨_, _, rfl, .inl (by assumption), ?_⟩ | refine ⟨Or.inl ⟨by decide, by decide⟩, ?_⟩ | refine ⟨(by show (0 : Int) < _; decide), ?_⟩ | refine ⟨⟨by decide, by decide⟩, ?_⟩))
  refine ⟨⟨_, SqL.of (S2 _ _ hlw)⟩, ?_⟩
  refine for_list (xs := as.map V.ref) (fun i σ H' => ∃ (bs : List Addr) (gs : List (Nat → Nat)), Same H H' ∧ Same H1 H' ∧ H' lf = some (.lst (bs.map V.ref)) ∧ lf ∉ bs ∧ RowsAt H H' bs (gs.map fun g => (List.range (2 * m)).map g) ∧ (∀ g, g ∈ gs → IsArcs (2 * m) g) ∧ gs.map (word (2 * m)) = ((wl m (2 * m)).take i).map (·.1) ∧ bs.length ≤ i ∧ ∃ u v x y z t, σ = [some (.int m), some (.ref lw), u, v, x, y, some (.ref lf), z, t]) ?_ ?_ ?_ ?_
  · exact ⟨[], [], S1.trans S2, S2, upd_same, by simp, RowsAt.nil _ _, by simp, by simp, by simp, _, _, _, _, _, _, rfl⟩
  · rintro i σ H' _ ⟨_, _, _, S', _⟩
    exact SqL.of (S' _ _ hlw)
  · rintro i xx σ H3 hx ⟨bs, gs, S3, S13, ef, nf, R, hgs, hws, hbl, u1, u2, u3, u4, u5, u6, rfl⟩
    rw [List.getElem?_map] at hx
    obtain ⟨ax, hax, rfl⟩ := Option.map_eq_some_iff.mp hx
    obtain ⟨e, he, z, hz1, hz⟩ := (hT.same S13).at hax
    have hem : e ∈ wl m (2 * m) := List.mem_of_getElem? he
    obtain ⟨g, hA, hg⟩ := word_arcs (wl_okw hem)
    have hsz : z.cps.size = 2 * m := by
      have := congrArg List.length (hz.trans hg.symm)
      rw [word_length] at this
      simpa using this
    have hlen : z.length = 2 * m := hsz
    have hi : i < as.length := (List.getElem?_eq_some_iff.mp hax).1
    have hi2 : i < 1024 := by have := hT.1; omega
    refine ⟨ax, _, rfl, SqT.of hz1, rfl, _, _, rfl, _, _, rfl, rfl, ?_⟩
    (repeat (first | refine ⟨_, rfl, ?_⟩ | refine ⟨_, _, rfl, rfl, ?_⟩ | refine ⟨rfl, ?_⟩ | refine ⟨_, _, rfl, .inl (by assumption), ?_⟩ | refine ⟨Or.inl ⟨by decide, by decide⟩, ?_⟩ | refine ⟨(by show (0 : Int) < _; decide), ?_⟩ | refine ⟨⟨by decide, by decide⟩, ?_⟩))
    refine ⟨by decide, fun x0 hx0 => ?_⟩
    have T0 := same_upd_new hx0 (.lst [.int 0])
    (repeat (first | refine ⟨_, rfl, ?_⟩ | refine ⟨_, _, rfl, rfl, ?_⟩ | refine ⟨rfl, ?_⟩ | refine ⟨_, _, rfl, .inl (by assumption), ?_⟩ | refine ⟨Or.inl ⟨by decide, by decide⟩, ?_⟩ | refine ⟨(by show (0 : Int) < _; decide), ?_⟩ | refine ⟨⟨by decide, by decide⟩, ?_⟩))
    refine ⟨small60 (by omega), ?_⟩
    rw [hlen]
    have eR : (List.replicate ((2 * m : Nat) : Int).toNat [V.int 0]).flatten = (tab (2 * m) (part g 0)).map V.int := by
      rw [Int.toNat_natCast, part_zero, ← tab_zero]
      simp
    refine ⟨x0, _, _, rfl, rfl, upd_same, by omega, by omega, by rw [Int.toNat_natCast]; exact small60 (by simp; omega), fun lr hlr => ?_⟩
    rw [eR]
    have T1 := T0.trans (same_upd_new hlr (.lst ((tab (2 * m) (part g 0)).map V.int)))
    (repeat (first | refine ⟨_, rfl, ?_⟩ | refine ⟨_, _, rfl, rfl, ?_⟩ | refine ⟨rfl, ?_⟩ | refine ⟨_, _, rfl, .inl (by assumption), ?_⟩ | refine ⟨Or.inl ⟨by decide, by decide⟩, ?_⟩ | refine ⟨(by show (0 : Int) < _; decide), ?_⟩ | refine ⟨⟨by decide, by decide⟩, ?_⟩))
    refine ⟨by decide, fun la hla => ?_⟩
    have T2 := T1.trans (same_upd_new hla (.lst []))
    have nra : lr ≠ la := fun t => by rw [t, upd_same] at hla; cases hla
    have zlr3 : H3 lr = none := T0.free hlr
    have zla3 : H3 la = none := T1.free hla
    (repeat (first | refine ⟨_, rfl, ?_⟩ | refine ⟨_, _, rfl, rfl, ?_⟩ | refine ⟨rfl, ?_⟩ | refine ⟨_, _, rfl, .inl (by assumption), ?_⟩ | refine ⟨Or.inl ⟨by decide, by decide⟩, ?_⟩ | refine ⟨(by show (0 : Int) < _; decide), ?_⟩ | refine ⟨⟨by decide, by decide⟩, ?_⟩))
    refine ⟨small60 (by omega), ?_⟩
    (repeat (first | refine ⟨_, rfl, ?_⟩ | refine ⟨_, _, rfl, rfl, ?_⟩ | refine ⟨rfl, ?_⟩ | refine ⟨_, _, rfl, .inl (by assumption), ?_⟩ | refine ⟨Or.inl ⟨by decide, by decide⟩, ?_⟩ | refine ⟨(by show (0 : Int) < _; decide), ?_⟩ | refine ⟨⟨by decide, by decide⟩, ?_⟩))
    rw [hlen]
    refine ⟨by omega, by omega, ?_⟩
    rw [Int.toNat_natCast]
    refine for_range (fun j σ H' => Same H3 H' ∧ H' lr = some (.lst ((tab (2 * m) (part g j)).map V.int)) ∧ H' la = some (.lst ((opens g j).map fun q : Nat => V.int (q : Int))) ∧ ∃ u, σ = [some (.int m), some (.ref lw), u, u2, some (.str z), some (.int (e.2 : Nat)), some (.ref lf), some (.ref lr), some (.ref la)]) ?_ ?_ ?_
    · exact ⟨T2, by rw [upd_ne nra, upd_same], by rw [upd_same]; rfl, _, rfl⟩
    · rintro j σ H4 hj ⟨S4, er, ea, u, rfl⟩
      have e0 : (0 : Int) + (j : Int) = j := by omega
      rw [e0]
      have hol : (opens g j).length ≤ j := by
        have := List.length_filter_le (fun q => decide (j ≤ g q)) (List.range j)
        rw [List.length_range] at this
        exact this
      have haS : SqL K H4 la ((opens g j).map fun q : Nat => V.int (q : Int)) := SqL.of ea
      have hcj : atI z.cps.toList (j : Int) = some (if j < g j then 40 else 41) := by
        refine atI_nat ?_
        rw [hz, ← hg, word_get hj]
      (repeat (first | refine ⟨_, rfl, ?_⟩ | refine ⟨_, _, rfl, rfl, ?_⟩ | refine ⟨rfl, ?_⟩ | refine ⟨_, _, rfl, .inl (by assumption), ?_⟩ | refine ⟨Or.inl ⟨by decide, by decide⟩, ?_⟩ | refine ⟨(by show (0 : Int) < _; decide), ?_⟩ | refine ⟨⟨by decide, by decide⟩, ?_⟩))
      refine ⟨z, _, _, rfl, rfl, small60 (by omega), hcj, ?_⟩
      by_cases hd : j < g j
      · rw [if_pos hd]
        (repeat (first | refine ⟨_, rfl, ?_⟩ | refine ⟨_, _, rfl, rfl, ?_⟩ | refine ⟨rfl, ?_⟩ | refine ⟨_, _, rfl, .inl (by assumption), ?_⟩ | refine ⟨Or.inl ⟨by decide, by decide⟩, ?_⟩ | refine ⟨(by show (0 : Int) < _; decide), ?_⟩ | refine ⟨⟨by decide, by decide⟩, ?_⟩))
        (try refine ite2 (fun _ => ?_) (fun y => absurd (by decide +kernel) y))
        (repeat (first | refine ⟨_, rfl, ?_⟩ | refine ⟨_, _, rfl, rfl, ?_⟩ | refine ⟨rfl, ?_⟩ | refine ⟨_, _, rfl, .inl (by assumption), ?_⟩ | refine ⟨Or.inl ⟨by decide, by decide⟩, ?_⟩ | refine ⟨(by show (0 : Int) < _; decide), ?_⟩ | refine ⟨⟨by decide, by decide⟩, ?_⟩))
        refine ⟨.inl ⟨rfl, _, haS⟩, ?_⟩
        (repeat (first | refine ⟨_, rfl, ?_⟩ | refine ⟨_, _, rfl, rfl, ?_⟩ | refine ⟨rfl, ?_⟩ | refine ⟨_, _, rfl, .inl (by assumption), ?_⟩ | refine ⟨Or.inl ⟨by decide, by decide⟩, ?_⟩ | refine ⟨(by show (0 : Int) < _; decide), ?_⟩ | refine ⟨⟨by decide, by decide⟩, ?_⟩))
        refine ⟨la, _, _, rfl, rfl, ea, by rw [List.length_map]; exact small1000 (by omega), ?_⟩
        refine ⟨S4.upd zla3 _, by rw [upd_ne nra, er, part_push hA.pairs hj hd], ?_, _, rfl⟩
        rw [upd_same, opens_push (fun q hq e => by rw [← e, hA.back q (by omega)]) hd, List.map_append]
        rfl
      · rw [if_neg hd]
        have hd' : g j < j := by have := hA.ne j hj; omega
        have hlast := opens_last hA hj hd'
        obtain ⟨S, hS⟩ := List.getLast?_eq_some_iff.mp hlast
        (repeat (first | refine ⟨_, rfl, ?_⟩ | refine ⟨_, _, rfl, rfl, ?_⟩ | refine ⟨rfl, ?_⟩ | refine ⟨_, _, rfl, .inl (by assumption), ?_⟩ | refine ⟨Or.inl ⟨by decide, by decide⟩, ?_⟩ | refine ⟨(by show (0 : Int) < _; decide), ?_⟩ | refine ⟨⟨by decide, by decide⟩, ?_⟩))
        (try refine ite2 (fun y => absurd y (by decide +kernel)) (fun _ => ?_))
        (repeat (first | refine ⟨_, rfl, ?_⟩ | refine ⟨_, _, rfl, rfl, ?_⟩ | refine ⟨rfl, ?_⟩ | refine ⟨_, _, rfl, .inl (by assumption), ?_⟩ | refine ⟨Or.inl ⟨by decide, by decide⟩, ?_⟩ | refine ⟨(by show (0 : Int) < _; decide), ?_⟩ | refine ⟨⟨by decide, by decide⟩, ?_⟩))
        refine ⟨.inl ⟨rfl, _, haS⟩, ?_⟩
        refine ⟨la, _, .int (g j : Int), rfl, rfl, ea, by rw [hS]; simp, ?_⟩
        (repeat (first | refine ⟨_, rfl, ?_⟩ | refine ⟨_, _, rfl, rfl, ?_⟩ | refine ⟨rfl, ?_⟩ | refine ⟨_, _, rfl, .inl (by assumption), ?_⟩ | refine ⟨Or.inl ⟨by decide, by decide⟩, ?_⟩ | refine ⟨(by show (0 : Int) < _; decide), ?_⟩ | refine ⟨⟨by decide, by decide⟩, ?_⟩))
        refine ⟨lr, _, _, j, rfl, rfl, (by rw [upd_ne nra]; exact er), ixN_nat (by rw [List.length_map, tab_length]; omega), ?_⟩
        (repeat (first | refine ⟨_, rfl, ?_⟩ | refine ⟨_, _, rfl, rfl, ?_⟩ | refine ⟨rfl, ?_⟩ | refine ⟨_, _, rfl, .inl (by assumption), ?_⟩ | refine ⟨Or.inl ⟨by decide, by decide⟩, ?_⟩ | refine ⟨(by show (0 : Int) < _; decide), ?_⟩ | refine ⟨⟨by decide, by decide⟩, ?_⟩))
        have er2 : ((tab (2 * m) (part g j)).map V.int).set j (.int (g j : Int)) = (tab (2 * m) (put (part g j) j (g j))).map V.int := by rw [← tab_set (show j < 2 * m by omega), List.map_set]
        rw [er2]
        refine ⟨lr, _, _, .int (g j : Nat), rfl, rfl, SqL.of upd_same, atI_int (by omega) (by rw [Int.toNat_natCast, tab_get (show j < 2 * m by omega)]; unfold put; rw [if_pos rfl]), ?_⟩
        (repeat (first | refine ⟨_, rfl, ?_⟩ | refine ⟨_, _, rfl, rfl, ?_⟩ | refine ⟨rfl, ?_⟩ | refine ⟨_, _, rfl, .inl (by assumption), ?_⟩ | refine ⟨Or.inl ⟨by decide, by decide⟩, ?_⟩ | refine ⟨(by show (0 : Int) < _; decide), ?_⟩ | refine ⟨⟨by decide, by decide⟩, ?_⟩))
        refine ⟨lr, _, _, g j, rfl, rfl, upd_same, ixN_nat (by rw [List.length_map, tab_length]; omega), ?_⟩
        refine ⟨((S4.upd zla3 _).upd zlr3 _).upd zlr3 _, ?_, ?_, _, rfl⟩
        · rw [upd_same, part_pop hA.pairs hj hd', put_comm _ (show g j ≠ j by omega), ← tab_set (show g j < 2 * m by omega), List.map_set]
        · rw [upd_ne (Ne.symm nra), upd_ne (Ne.symm nra), upd_same, opens_pop (hA.pairs.iffk hj) hd' hlast, List.map_dropLast]
    · rintro σ H4 ⟨S4, er, ea, u, rfl⟩
      rw [part_end hA.pairs] at er
      have ef4 := S4 _ _ ef
      (repeat (first | refine ⟨_, rfl, ?_⟩ | refine ⟨_, _, rfl, rfl, ?_⟩ | refine ⟨rfl, ?_⟩ | refine ⟨_, _, rfl, .inl (by assumption), ?_⟩ | refine ⟨Or.inl ⟨by decide, by decide⟩, ?_⟩ | refine ⟨(by show (0 : Int) < _; decide), ?_⟩ | refine ⟨⟨by decide, by decide⟩, ?_⟩))
      refine ⟨.inl ⟨rfl, _, SqL.of ef4⟩, ?_⟩
      (repeat (first | refine ⟨_, rfl, ?_⟩ | refine ⟨_, _, rfl, rfl, ?_⟩ | refine ⟨rfl, ?_⟩ | refine ⟨_, _, rfl, .inl (by assumption), ?_⟩ | refine ⟨Or.inl ⟨by decide, by decide⟩, ?_⟩ | refine ⟨(by show (0 : Int) < _; decide), ?_⟩ | refine ⟨⟨by decide, by decide⟩, ?_⟩))
      refine ⟨lf, _, _, rfl, rfl, ef4, by rw [List.length_map]; exact lt_line (by omega), ?_⟩
      have nfr : lf ≠ lr := ne_of_none ef zlr3
      have er' : H4 lr = some (.lst ((ni ((List.range (2 * m)).map g)).map V.int)) := by rw [er, ni_tab]
      refine ⟨bs ++ [lr], gs ++ [g], (S3.trans S4).upd zlf _, (S13.trans S4).upd hlf _, by rw [upd_same, List.map_append]; rfl, by simp [nf, nfr], ?_, ?_, ?_, by rw [List.length_append]; simp; omega, _, _, _, _, _, _, rfl⟩
      · rw [List.map_append]
        exact (((R.same S4).push er' (S3.free zlr3) (R.apart2 S4 zlr3))).upd (by simp [nf, nfr])
      · intro g' hg'
        rcases List.mem_append.mp hg' with t | t
        · exact hgs g' t
        · simp at t; rw [t]; exact hA
      · rw [List.map_append, hws, List.take_succ, he, List.map_append]
        show _ ++ [word (2 * m) g] = _ ++ [e.1]
        rw [hg]
  · rintro σ H3 ⟨bs, gs, S3, S13, ef, nf, R, hgs, hws, hbl, u1, u2, u3, u4, u5, u6, rfl⟩
    (repeat (first | refine ⟨_, rfl, ?_⟩ | refine ⟨_, _, rfl, rfl, ?_⟩ | refine ⟨rfl, ?_⟩ | refine ⟨_, _, rfl, .inl (by assumption), ?_⟩ | refine ⟨Or.inl ⟨by decide, by decide⟩, ?_⟩ | refine ⟨(by show (0 : Int) < _; decide), ?_⟩ | refine ⟨⟨by decide, by decide⟩, ?_⟩))
    refine q lf H3 bs gs S3 zlf ef nf R hgs ?_
    rw [hws, List.length_map, hT.1, List.take_length]
    exact wl_words m
end
theorem ok_law_all (F : FunD K "_law_all" "_law_all" s_law_all dV f fd) (mlen : mg "len" = none) (mrange : mg "range" = none) : FnOk P w K mg base CX0 1 f fd ["size"] sp_law_all := by
  refine F.ok (k := 0) sc_law_all (fun vs H Q E h => ?_) (fun cdv A outer s H vs Q E hr h => ?_)
  · obtain ⟨_, rfl, _⟩ := h; rfl
  obtain ⟨m, rfl, h1, h2, q⟩ := h
  have nd := sc_law_all.nd
  obtain ⟨t, h, q1⟩ := all_rows (H0 := H) (E := E) (outer := outer) hr mlen mrange (Q := Q)
  refine ⟨_, (pss_cons (ps_set (i := 1) nd rfl (Or.inl rfl) (pe_lst (pa_cons (pe_tup (pa_cons pe_str (pa_cons pe_int pa_nil))) pa_nil)))
  (pss_cons (ps_for PassesOwn.never rfl (pi_range1 rfl mrange (pa_cons (pe_op op_mul pe_int (pv 0)) pa_nil)) (pg_name (i := 2) nd rfl (Or.inl rfl)) (pss_cons (ps_set (i := 3) nd rfl (Or.inl rfl) (pe_lst pa_nil))
  (pss_cons (ps_for PassesOwn.never rfl (pi_list (pv 1)) (pg_tup rfl (pgs_cons (pg_name (i := 4) nd rfl (Or.inl rfl)) (pgs_cons (pg_name (i := 5) nd rfl (Or.inl rfl)) pgs_nil))) (pss_cons (ps_if (pt_cmpR op_lt (pv 5) (pe_op op_sub (pe_op op_mul pe_int (pv 0)) (pv 2)) (nomark _)) (pss_one (ps_expr (pe_bm PySem.F.plainAttrs_list PySem.F.slot_list_append PySem.F.type_list_append mt_append (pv 3) (pa_cons (pe_tup (pa_cons (pe_op op_add_str (pv 4) pe_str) (pa_cons (pe_op op_add (pv 5) pe_int) pa_nil))) pa_nil)))) pss_nil)
  (pss_one (ps_if (pt_cmpR op_gt (pv 5) pe_int (nomark _)) (pss_one (ps_expr (pe_bm PySem.F.plainAttrs_list PySem.F.slot_list_append PySem.F.type_list_append mt_append (pv 3) (pa_cons (pe_tup (pa_cons (pe_op op_add_str (pv 4) pe_str) (pa_cons (pe_op op_sub (pv 5) pe_int) pa_nil))) pa_nil)))) pss_nil))))
  (pss_one (ps_set (i := 1) nd rfl (Or.inl rfl) (pv 3))))))
  h)), ?_⟩
  have e2 : ((2 : Int) * (m : Int)).toNat = 2 * m := by omega
  (repeat (first | refine ⟨_, rfl, ?_⟩ | refine ⟨_, _, rfl, rfl, ?_⟩ | refine ⟨rfl, ?_⟩ | refine ⟨_, _, rfl, .inl (by assumption), ?_⟩ | refine ⟨Or.inl ⟨by decide, by decide⟩, ?_⟩ | refine ⟨(by show (0 : Int) < _; decide), ?_⟩ | refine ⟨⟨by decide, by decide⟩, ?_⟩))
  refine ⟨(by show 2 ≤ sizeLine; decide), fun t0 ht0 => ?_⟩
  have S1 := same_upd_new ht0 (.tup [.str "", .int 0])
  (repeat (first | refine ⟨_, rfl, ?_⟩ | refine ⟨_, _, rfl, rfl, ?_⟩ | refine ⟨rfl, ?_⟩ | refine ⟨_, _, rfl, .inl (by assumption), ?_⟩ | refine ⟨Or.inl ⟨by decide, by decide⟩, ?_⟩ | refine ⟨(by show (0 : Int) < _; decide), ?_⟩ | refine ⟨⟨by decide, by decide⟩, ?_⟩))
  refine ⟨(by show 1 ≤ sizeLine; decide), fun lw0 hlw0 => ?_⟩
  have S2 := S1.trans (same_upd_new hlw0 (.lst [.ref t0]))
  have n01 : t0 ≠ lw0 := fun z => by rw [← z, upd_same] at hlw0; cases hlw0
  (repeat (first | refine ⟨_, rfl, ?_⟩ | refine ⟨_, _, rfl, rfl, ?_⟩ | refine ⟨rfl, ?_⟩ | refine ⟨_, _, rfl, .inl (by assumption), ?_⟩ | refine ⟨Or.inl ⟨by decide, by decide⟩, ?_⟩ | refine ⟨(by show (0 : Int) < _; decide), ?_⟩ | refine ⟨⟨by decide, by decide⟩, ?_⟩))
  refine ⟨by omega, by omega, ?_⟩
  rw [e2]
  refine for_range (fun k σ H' => ∃ (lw : Addr) (as : List Addr) (u v x y : Option V), Same H H' ∧ H' lw = some (.lst (as.map V.ref)) ∧ Tups H' as (wl m k) ∧ σ = [some (.int m), some (.ref lw), u, v, x, y, none, none, none]) ?_ ?_ ?_
  · refine ⟨lw0, [t0], _, _, _, _, S2, upd_same, ⟨rfl, fun i x e hx he => ?_⟩, rfl⟩
    match i, hx, he with
    | 0, hx, he =>
      cases hx
      cases he
      exact ⟨"", by rw [upd_ne n01, upd_same]; rfl, rfl⟩
    | i + 1, hx, _ => simp at hx
  · rintro k σ H3 hk ⟨lw, as, u, v, x, y, S3, hlw, hT, rfl⟩
    have e0 : (0 : Int) + (k : Int) = k := by omega
    rw [e0]
    have wlen : (wl m k).length ≤ 1024 := Nat.le_trans (wl_len m k) (by
      have : 2 ^ k ≤ 2 ^ 10 := Nat.pow_le_pow_right (by omega) (by omega)
      exact this)
    (repeat (first | refine ⟨_, rfl, ?_⟩ | refine ⟨_, _, rfl, rfl, ?_⟩ | refine ⟨rfl, ?_⟩ | refine ⟨_, _, rfl, .inl (by assumption), ?_⟩ | refine ⟨Or.inl ⟨by decide, by decide⟩, ?_⟩ | refine ⟨(by show (0 : Int) < _; decide), ?_⟩ | refine ⟨⟨by decide, by decide⟩, ?_⟩))
    refine ⟨by decide, fun ll hll => ?_⟩
    have S4 := same_upd_new hll (.lst [])
    have zll : H ll = none := S3.free hll
    have nwl : lw ≠ ll := ne_of_none hlw hll
    (repeat (first | refine ⟨_, rfl, ?_⟩ | refine ⟨_, _, rfl, rfl, ?_⟩ | refine ⟨rfl, ?_⟩ | refine ⟨_, _, rfl, .inl (by assumption), ?_⟩ | refine ⟨Or.inl ⟨by decide, by decide⟩, ?_⟩ | refine ⟨(by show (0 : Int) < _; decide), ?_⟩ | refine ⟨⟨by decide, by decide⟩, ?_⟩))
    refine ⟨⟨_, SqL.of (S4 _ _ hlw)⟩, ?_⟩
    refine for_list (xs := as.map V.ref) (fun i σ H' => ∃ (bs : List Addr), Same H H' ∧ H' ll = some (.lst (bs.map V.ref)) ∧ Tups H' bs (((wl m k).take i).flatMap (stepW m k)) ∧ H' lw = some (.lst (as.map V.ref)) ∧ Tups H' as (wl m k) ∧ bs.length ≤ 2 * i ∧ ∃ u v, σ = [some (.int m), some (.ref lw), some (.int k), some (.ref ll), u, v, none, none, none]) ?_ ?_ ?_ ?_
    · exact ⟨[], S3.trans S4, upd_same, Tups.nil _, S4 _ _ hlw, hT.same S4, by simp, _, _, rfl⟩
    · rintro i σ H' _ ⟨_, _, _, _, hw, _⟩
      exact SqL.of hw
    · rintro i xx σ H5 hx ⟨bs, S5, el, hTb, ew, hTa, hbl, u', v', rfl⟩
      rw [List.getElem?_map] at hx
      obtain ⟨ax, hax, rfl⟩ := Option.map_eq_some_iff.mp hx
      obtain ⟨e, he, z, hz1, hz⟩ := hTa.at hax
      have hem : e ∈ wl m k := List.mem_of_getElem? he
      obtain ⟨w1, w2, w3⟩ := wl_ok (show k ≤ 2 * m by omega) e hem
      have zlen : z.length = k := by
        have := congrArg List.length hz
        rw [w3] at this
        show z.cps.size = k
        simpa using this
      have hi : i < as.length := (List.getElem?_eq_some_iff.mp hax).1
      have hi2 : i < 1024 := by have := hTa.1; omega
      refine ⟨ax, _, rfl, SqT.of hz1, rfl, _, _, rfl, _, _, rfl, rfl, ?_⟩
      (repeat (first | refine ⟨_, rfl, ?_⟩ | refine ⟨_, _, rfl, rfl, ?_⟩ | refine ⟨rfl, ?_⟩ | refine ⟨_, _, rfl, .inl (by assumption), ?_⟩ | refine ⟨Or.inl ⟨by decide, by decide⟩, ?_⟩ | refine ⟨(by show (0 : Int) < _; decide), ?_⟩ | refine ⟨⟨by decide, by decide⟩, ?_⟩))
      refine ite2 (fun c => ?_) (fun c => ?_)
      · have c' : e.2 < 2 * m - k := by have := of_decide_eq_true c; omega
        (repeat (first | refine ⟨_, rfl, ?_⟩ | refine ⟨_, _, rfl, rfl, ?_⟩ | refine ⟨rfl, ?_⟩ | refine ⟨_, _, rfl, .inl (by assumption), ?_⟩ | refine ⟨Or.inl ⟨by decide, by decide⟩, ?_⟩ | refine ⟨(by show (0 : Int) < _; decide), ?_⟩ | refine ⟨⟨by decide, by decide⟩, ?_⟩))
        refine ⟨.inl ⟨rfl, _, SqL.of el⟩, ?_⟩
        (repeat (first | refine ⟨_, rfl, ?_⟩ | refine ⟨_, _, rfl, rfl, ?_⟩ | refine ⟨rfl, ?_⟩ | refine ⟨_, _, rfl, .inl (by assumption), ?_⟩ | refine ⟨Or.inl ⟨by decide, by decide⟩, ?_⟩ | refine ⟨(by show (0 : Int) < _; decide), ?_⟩ | refine ⟨⟨by decide, by decide⟩, ?_⟩))
        refine ⟨by rw [zlen]; exact small60 (by show _ + 1 ≤ _; omega), ?_⟩
        (repeat (first | refine ⟨_, rfl, ?_⟩ | refine ⟨_, _, rfl, rfl, ?_⟩ | refine ⟨rfl, ?_⟩ | refine ⟨_, _, rfl, .inl (by assumption), ?_⟩ | refine ⟨Or.inl ⟨by decide, by decide⟩, ?_⟩ | refine ⟨(by show (0 : Int) < _; decide), ?_⟩ | refine ⟨⟨by decide, by decide⟩, ?_⟩))
        refine ⟨(by show 2 ≤ sizeLine; decide), fun t1 ht1 => ?_⟩
        have T1 := same_upd_new ht1 (.tup [.str (z ++ "("), .int ((e.2 : Int) + 1)])
        have ed1 : (e.2 : Int) + 1 = ((e.2 + 1 : Nat) : Int) := by omega
        (repeat (first | refine ⟨_, rfl, ?_⟩ | refine ⟨_, _, rfl, rfl, ?_⟩ | refine ⟨rfl, ?_⟩ | refine ⟨_, _, rfl, .inl (by assumption), ?_⟩ | refine ⟨Or.inl ⟨by decide, by decide⟩, ?_⟩ | refine ⟨(by show (0 : Int) < _; decide), ?_⟩ | refine ⟨⟨by decide, by decide⟩, ?_⟩))
        refine ⟨ll, _, _, rfl, rfl, T1 _ _ el, by rw [List.length_map]; exact lt_line (by omega), ?_⟩
        have tp1 := (hTb.same T1).push (x := t1) (z := z ++ "(") (e := (e.1 ++ [40], e.2 + 1)) (by show upd _ _ _ _ = some (.tup [.str (z ++ "("), .int ((e.2 + 1 : Nat) : Int)]); rw [upd_same, ed1]) (by rw [app_toList, hz]; rfl)
        have TP := tp1.upd (o := .lst (bs.map V.ref ++ [.ref t1])) (T1 _ _ el)
        have SS := (S5.trans T1).upd zll (.lst (bs.map V.ref ++ [.ref t1]))
        have LW : upd (upd H5 t1 (.tup [.str (z ++ "("), .int ((e.2 : Int) + 1)])) ll (.lst (bs.map V.ref ++ [.ref t1])) lw = some (.lst (as.map V.ref)) := by rw [upd_ne nwl]; exact T1 _ _ ew
        have TA := (hTa.same T1).upd (o := .lst (bs.map V.ref ++ [.ref t1])) (T1 _ _ el)
        have LL : upd (upd H5 t1 (.tup [.str (z ++ "("), .int ((e.2 : Int) + 1)])) ll (.lst (bs.map V.ref ++ [.ref t1])) ll = some (.lst ((bs ++ [t1]).map V.ref)) := by rw [upd_same, List.map_append]; rfl
        have hb1 : (bs ++ [t1]).length ≤ 2 * i + 1 := by rw [List.length_append]; simp; omega
        generalize bs ++ [t1] = bs1 at LL TP hb1
        generalize upd (upd H5 t1 (.tup [.str (z ++ "("), .int ((e.2 : Int) + 1)])) ll (.lst (bs.map V.ref ++ [.ref t1])) = H6 at TP SS LW TA LL ⊢
        (repeat (first | refine ⟨_, rfl, ?_⟩ | refine ⟨_, _, rfl, rfl, ?_⟩ | refine ⟨rfl, ?_⟩ | refine ⟨_, _, rfl, .inl (by assumption), ?_⟩ | refine ⟨Or.inl ⟨by decide, by decide⟩, ?_⟩ | refine ⟨(by show (0 : Int) < _; decide), ?_⟩ | refine ⟨⟨by decide, by decide⟩, ?_⟩))
        refine ite2 (fun d => ?_) (fun d => ?_)
        · have d' : 0 < e.2 := by have := of_decide_eq_true d; omega
          (repeat (first | refine ⟨_, rfl, ?_⟩ | refine ⟨_, _, rfl, rfl, ?_⟩ | refine ⟨rfl, ?_⟩ | refine ⟨_, _, rfl, .inl (by assumption), ?_⟩ | refine ⟨Or.inl ⟨by decide, by decide⟩, ?_⟩ | refine ⟨(by show (0 : Int) < _; decide), ?_⟩ | refine ⟨⟨by decide, by decide⟩, ?_⟩))
          refine ⟨.inl ⟨rfl, _, SqL.of LL⟩, ?_⟩
          (repeat (first | refine ⟨_, rfl, ?_⟩ | refine ⟨_, _, rfl, rfl, ?_⟩ | refine ⟨rfl, ?_⟩ | refine ⟨_, _, rfl, .inl (by assumption), ?_⟩ | refine ⟨Or.inl ⟨by decide, by decide⟩, ?_⟩ | refine ⟨(by show (0 : Int) < _; decide), ?_⟩ | refine ⟨⟨by decide, by decide⟩, ?_⟩))
          refine ⟨by rw [zlen]; exact small60 (by show _ + 1 ≤ _; omega), ?_⟩
          (repeat (first | refine ⟨_, rfl, ?_⟩ | refine ⟨_, _, rfl, rfl, ?_⟩ | refine ⟨rfl, ?_⟩ | refine ⟨_, _, rfl, .inl (by assumption), ?_⟩ | refine ⟨Or.inl ⟨by decide, by decide⟩, ?_⟩ | refine ⟨(by show (0 : Int) < _; decide), ?_⟩ | refine ⟨⟨by decide, by decide⟩, ?_⟩))
          refine ⟨(by show 2 ≤ sizeLine; decide), fun t2 ht2 => ?_⟩
          have T2 := same_upd_new ht2 (.tup [.str (z ++ ")"), .int ((e.2 : Int) - 1)])
          have ed : (e.2 : Int) - 1 = ((e.2 - 1 : Nat) : Int) := by omega
          (repeat (first | refine ⟨_, rfl, ?_⟩ | refine ⟨_, _, rfl, rfl, ?_⟩ | refine ⟨rfl, ?_⟩ | refine ⟨_, _, rfl, .inl (by assumption), ?_⟩ | refine ⟨Or.inl ⟨by decide, by decide⟩, ?_⟩ | refine ⟨(by show (0 : Int) < _; decide), ?_⟩ | refine ⟨⟨by decide, by decide⟩, ?_⟩))
          refine ⟨ll, _, _, rfl, rfl, T2 _ _ LL, by rw [List.length_map]; exact lt_line (by omega), ?_⟩
          have tp := ((TP).same T2).push (x := t2) (z := z ++ ")") (e := (e.1 ++ [41], e.2 - 1)) (by show upd _ _ _ _ = some (.tup [.str (z ++ ")"), .int ((e.2 - 1 : Nat) : Int)]); rw [upd_same, ed]) (by rw [app_toList, hz]; rfl)
          refine ⟨bs1 ++ [t2], ((SS).trans T2).upd zll _, by rw [upd_same, List.map_append]; rfl, ?_, by rw [upd_ne nwl]; exact T2 _ _ LW, ((TA).same T2).upd (T2 _ _ LL), by rw [List.length_append]; simp; omega, _, _, rfl⟩
          rw [take_step he]
          have := tp.upd (o := .lst (bs1.map V.ref ++ [.ref t2])) (T2 _ _ LL)
          rw [show stepW m k e = [(e.1 ++ [40], e.2 + 1)] ++ [(e.1 ++ [41], e.2 - 1)] by unfold stepW; rw [if_pos c', if_pos d']]
          rw [← List.append_assoc]
          exact this
        · have d' : ¬ 0 < e.2 := fun q => d (decide_eq_true (by omega))
          refine ⟨bs1, SS, LL, ?_, LW, TA, by omega, _, _, rfl⟩
          rw [take_step he]
          rw [show stepW m k e = [(e.1 ++ [40], e.2 + 1)] ++ [] by unfold stepW; rw [if_pos c', if_neg d'], List.append_nil]
          exact TP
      · have c' : ¬ e.2 < 2 * m - k := fun q => c (decide_eq_true (by omega))
        (repeat (first | refine ⟨_, rfl, ?_⟩ | refine ⟨_, _, rfl, rfl, ?_⟩ | refine ⟨rfl, ?_⟩ | refine ⟨_, _, rfl, .inl (by assumption), ?_⟩ | refine ⟨Or.inl ⟨by decide, by decide⟩, ?_⟩ | refine ⟨(by show (0 : Int) < _; decide), ?_⟩ | refine ⟨⟨by decide, by decide⟩, ?_⟩))
        refine ite2 (fun d => ?_) (fun d => ?_)
        · have d' : 0 < e.2 := by have := of_decide_eq_true d; omega
          (repeat (first | refine ⟨_, rfl, ?_⟩ | refine ⟨_, _, rfl, rfl, ?_⟩ | refine ⟨rfl, ?_⟩ | refine ⟨_, _, rfl, .inl (by assumption), ?_⟩ | refine ⟨Or.inl ⟨by decide, by decide⟩, ?_⟩ | refine ⟨(by show (0 : Int) < _; decide), ?_⟩ | refine ⟨⟨by decide, by decide⟩, ?_⟩))
          refine ⟨.inl ⟨rfl, _, SqL.of el⟩, ?_⟩
          (repeat (first | refine ⟨_, rfl, ?_⟩ | refine ⟨_, _, rfl, rfl, ?_⟩ | refine ⟨rfl, ?_⟩ | refine ⟨_, _, rfl, .inl (by assumption), ?_⟩ | refine ⟨Or.inl ⟨by decide, by decide⟩, ?_⟩ | refine ⟨(by show (0 : Int) < _; decide), ?_⟩ | refine ⟨⟨by decide, by decide⟩, ?_⟩))
          refine ⟨by rw [zlen]; exact small60 (by show _ + 1 ≤ _; omega), ?_⟩
          (repeat (first | refine ⟨_, rfl, ?_⟩ | refine ⟨_, _, rfl, rfl, ?_⟩ | refine ⟨rfl, ?_⟩ | refine ⟨_, _, rfl, .inl (by assumption), ?_⟩ | refine ⟨Or.inl ⟨by decide, by decide⟩, ?_⟩ | refine ⟨(by show (0 : Int) < _; decide), ?_⟩ | refine ⟨⟨by decide, by decide⟩, ?_⟩))
          refine ⟨(by show 2 ≤ sizeLine; decide), fun t2 ht2 => ?_⟩
          have T2 := same_upd_new ht2 (.tup [.str (z ++ ")"), .int ((e.2 : Int) - 1)])
          have ed : (e.2 : Int) - 1 = ((e.2 - 1 : Nat) : Int) := by omega
          (repeat (first | refine ⟨_, rfl, ?_⟩ | refine ⟨_, _, rfl, rfl, ?_⟩ | refine ⟨rfl, ?_⟩ | refine ⟨_, _, rfl, .inl (by assumption), ?_⟩ | refine ⟨Or.inl ⟨by decide, by decide⟩, ?_⟩ | refine ⟨(by show (0 : Int) < _; decide), ?_⟩ | refine ⟨⟨by decide, by decide⟩, ?_⟩))
          refine ⟨ll, _, _, rfl, rfl, T2 _ _ el, by rw [List.length_map]; exact lt_line (by omega), ?_⟩
          have tp := ((hTb).same T2).push (x := t2) (z := z ++ ")") (e := (e.1 ++ [41], e.2 - 1)) (by show upd _ _ _ _ = some (.tup [.str (z ++ ")"), .int ((e.2 - 1 : Nat) : Int)]); rw [upd_same, ed]) (by rw [app_toList, hz]; rfl)
          refine ⟨bs ++ [t2], ((S5).trans T2).upd zll _, by rw [upd_same, List.map_append]; rfl, ?_, by rw [upd_ne nwl]; exact T2 _ _ ew, ((hTa).same T2).upd (T2 _ _ el), by rw [List.length_append]; simp; omega, _, _, rfl⟩
          rw [take_step he]
          have := tp.upd (o := .lst (bs.map V.ref ++ [.ref t2])) (T2 _ _ el)
          rw [show stepW m k e = ([] : List (List Nat × Nat)) ++ [(e.1 ++ [41], e.2 - 1)] by unfold stepW; rw [if_neg c', if_pos d']]
          rw [List.nil_append]
          exact this
        · have d' : ¬ 0 < e.2 := fun q => d (decide_eq_true (by omega))
          refine ⟨bs, S5, el, ?_, ew, hTa, by omega, _, _, rfl⟩
          rw [take_step he]
          rw [show stepW m k e = ([] : List (List Nat × Nat)) ++ [] by unfold stepW; rw [if_neg c', if_neg d'], List.append_nil, List.append_nil]
          exact hTb
    · rintro σ H5 ⟨bs, S5, el, hTb, ew, hTa, hbl, u', v', rfl⟩
      rw [List.length_map, hTa.1, List.take_length] at hTb
      (repeat (first | refine ⟨_, rfl, ?_⟩ | refine ⟨_, _, rfl, rfl, ?_⟩ | refine ⟨rfl, ?_⟩ | refine ⟨_, _, rfl, .inl (by assumption), ?_⟩ | refine ⟨Or.inl ⟨by decide, by decide⟩, ?_⟩ | refine ⟨(by show (0 : Int) < _; decide), ?_⟩ | refine ⟨⟨by decide, by decide⟩, ?_⟩))
      exact ⟨ll, bs, _, _, _, _, S5, el, hTb, rfl⟩
  · rintro σ H3 ⟨lw, as, u, v, x, y, S3, hlw, hT, rfl⟩
    exact q1 H H3 m lw as _ _ _ _ h1 h2 S3 hlw hT q

-- CUT 8
def sp_law (K : PySem.W.Frag) : Sp := fun vs H Q _ => ∃ (a : Addr) (ns : List Int), vs = [.ref a] ∧ SqL K H a (ns.map V.int) ∧ ns.length ≤ 63 ∧ ∀ H', Q (.bl true) H'
section
variable {cdv : Value} {A : Around} {outer : List Env} {s : Shared} {H0 : Hp} {Q : VK} {E : XK}
theorem law_rest (hr : Room 9 (A.deeper (PyProof.Rows.envOfC "law" (defScope s_law) s.heap.objs.size f cdv)))
    (c_law_cell_at : Fn P w K mg base CX0 "_law_cell_at" ["script", "k"] [] 1 (sp_law_cell_at K)) (c_law_all : Fn P w K mg base CX0 "_law_all" ["size"] [] 1 sp_law_all) (c_law_roads : Fn P w K mg base CX0 "_law_roads" ["above", "below"] [] 1 (sp_law_roads K)) (c_rows_with : Fn P w K mg base CX0 "rows_with" ["size", "roads"] [] 9 sp_rows_with) (c_law_whole : Fn P w K mg base CX0 "_law_whole" ["found"] [] 1 sp_law_whole) (mlen : mg "len" = none) (q : ∀ H', Q (.bl true) H') :
    ∃ t : TS, PSs (cxOf CX0 P w K mg base ["script", "size", "some", "wanted", "due", "above", "found"] "law" (defScope s_law) f cdv A outer s H0 E).nox ((defBody s_law).drop 8) t ∧
      ∀ (H : Hp) (a : Addr) (ns : List Int) (sz u v w' x fo : Option V), SqL K H a (ns.map V.int) →
        t { nx := fun _ H' => Q .non H', rt := Q } [some (.ref a), sz, u, v, w', x, fo] H := by
  have nd := sc_law.nd
  refine ⟨_, (pss_cons (ps_set (i := 3) nd rfl (Or.inr rfl) (pe_op op_add pe_int (pe_op op_mod (pe_fn c_law_cell_at hr (by decide) rfl (pa_cons (pv 0) (pa_cons pe_int pa_nil))) pe_int)))
  (pss_cons (ps_set (i := 2) nd rfl (Or.inl rfl) (pe_fn c_law_all hr (by decide) rfl (pa_cons pe_int pa_nil)))
  (pss_cons (ps_set (i := 4) nd rfl (Or.inl rfl) pe_int)
  (pss_cons (ps_for PassesOwn.never rfl (pi_list (pv 2)) (pg_name (i := 5) nd rfl (Or.inr rfl)) (pss_one (ps_set (i := 4) nd rfl (Or.inl rfl) (pe_op op_add (pv 4) (pe_callB call_len_seq rfl mlen PySem.boot_len (pa_cons (pe_comp (compOk (N' := ["below", "wanted", "above"]) (js := [none, some 3, some 5]) (N := ["script", "size", "some", "wanted", "due", "above", "found"]) (sc := defScope s_law) rfl rfl rfl (by decide +kernel) (by decide +kernel) (by decide +kernel) rfl (by decide +kernel)) rfl (pi_list (pv 2)) (fun _ _ _ _ _ => (pg_name (i := 0) (show [("below" : PySem.Str), ("wanted" : PySem.Str), ("above" : PySem.Str)].Nodup by decide +kernel) rfl (Or.inl rfl))) (fun _ _ _ _ _ => pf_one (pt_cmpR op_eq (pe_callB (call_len_seqK (K := K) rfl) rfl mlen PySem.boot_len (pa_cons (pe_fn c_law_roads hr (by decide) rfl (pa_cons (pv 2) (pa_cons (pv 0) pa_nil))) pa_nil)) (pv 1) (nomark _))) (fun _ _ _ _ _ => (pv 0))) pa_nil))))))
  (pss_cons (ps_set (i := 6) nd rfl (Or.inl rfl) (pe_fn c_rows_with hr (by decide) rfl (pa_cons pe_int (pa_cons (pv 3) pa_nil))))
  (pss_one (ps_ret (pe_and (pe_fn c_law_whole hr (by decide) rfl (pa_cons (pv 6) pa_nil)) (pe_one (pe_cmpR op_eq (pv 6) (pv 4) (nomark _))))))))))), ?_⟩
  intro H a ns sz u0 v0 w0 x0 fo hS
  obtain ⟨k, ek⟩ : ∃ k : Nat, (k : Int) = 1 + cellAt ns 3 % 5 := ⟨(1 + cellAt ns 3 % 5).toNat, by omega⟩
  (repeat (first | refine ⟨_, rfl, ?_⟩ | refine ⟨_, _, rfl, rfl, ?_⟩ | refine ⟨rfl, ?_⟩ | refine ⟨_, _, rfl, .inl (by assumption), ?_⟩ | refine ⟨Or.inl ⟨by decide, by decide⟩, ?_⟩ | refine ⟨(by show (0 : Int) < _; decide), ?_⟩ | refine ⟨⟨by decide, by decide⟩, ?_⟩))
  refine ⟨a, ns, 3, rfl, hS, by decide, ?_⟩
  (repeat (first | refine ⟨_, rfl, ?_⟩ | refine ⟨_, _, rfl, rfl, ?_⟩ | refine ⟨rfl, ?_⟩ | refine ⟨_, _, rfl, .inl (by assumption), ?_⟩ | refine ⟨Or.inl ⟨by decide, by decide⟩, ?_⟩ | refine ⟨(by show (0 : Int) < _; decide), ?_⟩ | refine ⟨⟨by decide, by decide⟩, ?_⟩))
  dsimp only
  rw [← ek]
  refine ⟨by omega, by omega, fun rd H1 ds gs S1 hrd ed nrd RR hgs hws => ?_⟩
  have dgl : ds.length = gs.length := by rw [RR.len, List.length_map]
  have gl : gs.length = W 5 5 := by
    have := congrArg List.length hws
    simpa using this
  have wb := W_small (show 5 ≤ 5 by omega)
  (repeat (first | refine ⟨_, rfl, ?_⟩ | refine ⟨_, _, rfl, rfl, ?_⟩ | refine ⟨rfl, ?_⟩ | refine ⟨_, _, rfl, .inl (by assumption), ?_⟩ | refine ⟨Or.inl ⟨by decide, by decide⟩, ?_⟩ | refine ⟨(by show (0 : Int) < _; decide), ?_⟩ | refine ⟨⟨by decide, by decide⟩, ?_⟩))
  refine ⟨⟨_, SqL.of ed⟩, ?_⟩
  refine for_list (xs := ds.map V.ref) (fun i σ H' => Same H1 H' ∧ ∃ u, σ = [some (.ref a), sz, some (.ref rd), some (.int (k : Nat)), some (.int (cntP 5 k (gs.take i) gs : Nat)), u, fo]) ⟨Same.refl _, _, by simp [cntP]; rfl⟩ (fun i σ H' _ h => SqL.of (h.1 _ _ ed)) ?_ ?_
  · rintro i x σ Hx hx ⟨Sx, u, rfl⟩
    rw [List.getElem?_map] at hx
    obtain ⟨ax, hax, rfl⟩ := Option.map_eq_some_iff.mp hx
    obtain ⟨g, hg, eg⟩ := RR.arcs hax
    have hA := hgs g (List.mem_of_getElem? hg)
    have hds : SqL K Hx rd (ds.map V.ref) := SqL.of (Sx _ _ ed)
    (repeat (first | refine ⟨_, rfl, ?_⟩ | refine ⟨_, _, rfl, rfl, ?_⟩ | refine ⟨rfl, ?_⟩ | refine ⟨_, _, rfl, .inl (by assumption), ?_⟩ | refine ⟨Or.inl ⟨by decide, by decide⟩, ?_⟩ | refine ⟨(by show (0 : Int) < _; decide), ?_⟩ | refine ⟨⟨by decide, by decide⟩, ?_⟩))
    refine ⟨⟨_, hds⟩, fun p hp => ?_⟩
    refine comp_if ds.length (fun j => decide (many (2 * 5) g (gs.getD j fun _ => 0) = k)) (fun j => .ref (ds.getD j 0)) (fun σ => ∃ u, σ = [u, some (.int (k : Nat)), some (.ref ax)]) (small60 (by omega)) ⟨_, rfl⟩ hp (fun j H' hj S' => ⟨_, _, S'.seq hds, by rw [List.getElem?_map, List.getElem?_eq_getElem hj]; rfl⟩) (fun H' S' => ⟨_, S'.seq hds, by rw [List.length_map]; exact Nat.le_refl _⟩) ?_ ?_
    · rintro j x σ' H' H3 kT kF hj ⟨u, rfl⟩ S' ⟨rfl, hx⟩ hT hF
      have hx' := hx _ (S'.seq hds)
      have hbx : ds[j]? = some ds[j] := List.getElem?_eq_getElem hj
      rw [List.getElem?_map, hbx] at hx'
      have ex : x = .ref ds[j] := (Option.some.inj hx').symm
      subst ex
      obtain ⟨b, hb, eb⟩ := RR.arcs hbx
      have hB := hgs b (List.mem_of_getElem? hb)
      have gb : gs.getD j (fun _ => 0) = b := by rw [List.getD_eq_getElem?_getD, hb]; rfl
      have db : ds.getD j 0 = ds[j] := by rw [List.getD_eq_getElem?_getD, hbx]; rfl
      have Sy := Sx.trans S'
      (repeat (first | refine ⟨_, rfl, ?_⟩ | refine ⟨_, _, rfl, rfl, ?_⟩ | refine ⟨rfl, ?_⟩ | refine ⟨_, _, rfl, .inl (by assumption), ?_⟩ | refine ⟨Or.inl ⟨by decide, by decide⟩, ?_⟩ | refine ⟨(by show (0 : Int) < _; decide), ?_⟩ | refine ⟨⟨by decide, by decide⟩, ?_⟩))
      refine ⟨ax, ds[j], 2 * 5, g, b, rfl, SqL.of (Sy _ _ eg), SqL.of (Sy _ _ eb), hA.pairs, hB.pairs, by omega, fun rr H4 as4 S4 hrr e4 nr4 R4 => ?_⟩
      (repeat (first | refine ⟨_, rfl, ?_⟩ | refine ⟨_, _, rfl, rfl, ?_⟩ | refine ⟨rfl, ?_⟩ | refine ⟨_, _, rfl, .inl (by assumption), ?_⟩ | refine ⟨Or.inl ⟨by decide, by decide⟩, ?_⟩ | refine ⟨(by show (0 : Int) < _; decide), ?_⟩ | refine ⟨⟨by decide, by decide⟩, ?_⟩))
      refine ⟨rr, _, rfl, .inl (SqL.of e4), ?_⟩
      have l4 : (as4.map V.ref).length = many (2 * 5) g b := by rw [List.length_map, R4.len, List.length_map]; exact scan_many hA.pairs hB.pairs
      (repeat (first | refine ⟨_, rfl, ?_⟩ | refine ⟨_, _, rfl, rfl, ?_⟩ | refine ⟨rfl, ?_⟩ | refine ⟨_, _, rfl, .inl (by assumption), ?_⟩ | refine ⟨Or.inl ⟨by decide, by decide⟩, ?_⟩ | refine ⟨(by show (0 : Int) < _; decide), ?_⟩ | refine ⟨⟨by decide, by decide⟩, ?_⟩))
      refine ite2 (fun c => ?_) (fun c => ?_)
      · have c' : many (2 * 5) g b = k := by have := eq_yes c; rw [l4] at this; omega
        (repeat (first | refine ⟨_, rfl, ?_⟩ | refine ⟨_, _, rfl, rfl, ?_⟩ | refine ⟨rfl, ?_⟩ | refine ⟨_, _, rfl, .inl (by assumption), ?_⟩ | refine ⟨Or.inl ⟨by decide, by decide⟩, ?_⟩ | refine ⟨(by show (0 : Int) < _; decide), ?_⟩ | refine ⟨⟨by decide, by decide⟩, ?_⟩))
        exact hT (decide_eq_true (by rw [gb]; exact c')) _ _ _ ⟨_, rfl⟩ (by rw [db]) S4
      · have c' : ¬ many (2 * 5) g b = k := fun z => eq_no c (by rw [l4, z])
        exact hF (decide_eq_false (by rw [gb]; exact c')) _ _ ⟨_, rfl⟩ S4
    intro H4 S4 e4
    (repeat (first | refine ⟨_, rfl, ?_⟩ | refine ⟨_, _, rfl, rfl, ?_⟩ | refine ⟨rfl, ?_⟩ | refine ⟨_, _, rfl, .inl (by assumption), ?_⟩ | refine ⟨Or.inl ⟨by decide, by decide⟩, ?_⟩ | refine ⟨(by show (0 : Int) < _; decide), ?_⟩ | refine ⟨⟨by decide, by decide⟩, ?_⟩))
    refine ⟨p, _, rfl, .inl (SqL.of e4), ?_⟩
    have lc : (((List.range ds.length).filter fun j => decide (many (2 * 5) g (gs.getD j fun _ => 0) = k)).map fun j => V.ref (ds.getD j 0)).length = cnt1 5 k g gs := by
      rw [List.length_map, dgl]
      exact cnt1_range 5 k g gs
    rw [lc]
    (repeat (first | refine ⟨_, rfl, ?_⟩ | refine ⟨_, _, rfl, rfl, ?_⟩ | refine ⟨rfl, ?_⟩ | refine ⟨_, _, rfl, .inl (by assumption), ?_⟩ | refine ⟨Or.inl ⟨by decide, by decide⟩, ?_⟩ | refine ⟨(by show (0 : Int) < _; decide), ?_⟩ | refine ⟨⟨by decide, by decide⟩, ?_⟩))
    refine ⟨Sx.trans S4, some (.ref ax), ?_⟩
    rw [cntP_take hg]
    rfl
  rintro σ Hx ⟨Sx, u, rfl⟩
  rw [List.length_map, dgl, List.take_length]
  (repeat (first | refine ⟨_, rfl, ?_⟩ | refine ⟨_, _, rfl, rfl, ?_⟩ | refine ⟨rfl, ?_⟩ | refine ⟨_, _, rfl, .inl (by assumption), ?_⟩ | refine ⟨Or.inl ⟨by decide, by decide⟩, ?_⟩ | refine ⟨(by show (0 : Int) < _; decide), ?_⟩ | refine ⟨⟨by decide, by decide⟩, ?_⟩))
  refine ⟨5, k, rfl, by omega, by omega, by omega, by omega, fun H9 gs9 S9 hgs9 hws9 => ?_⟩
  rw [cnt_same (k := k) hgs9 hgs (by rw [hws9, hws])]
  (repeat (first | refine ⟨_, rfl, ?_⟩ | refine ⟨_, _, rfl, rfl, ?_⟩ | refine ⟨rfl, ?_⟩ | refine ⟨_, _, rfl, .inl (by assumption), ?_⟩ | refine ⟨Or.inl ⟨by decide, by decide⟩, ?_⟩ | refine ⟨(by show (0 : Int) < _; decide), ?_⟩ | refine ⟨⟨by decide, by decide⟩, ?_⟩))
  (try refine iteT ?_)
  (repeat (first | refine ⟨_, rfl, ?_⟩ | refine ⟨_, _, rfl, rfl, ?_⟩ | refine ⟨rfl, ?_⟩ | refine ⟨_, _, rfl, .inl (by assumption), ?_⟩ | refine ⟨Or.inl ⟨by decide, by decide⟩, ?_⟩ | refine ⟨(by show (0 : Int) < _; decide), ?_⟩ | refine ⟨⟨by decide, by decide⟩, ?_⟩))
  exact toB (q H9) (decide_eq_true rfl).symm
end
theorem ok_law (F : FunD K "law" "law" s_law dV f fd) (c_law_cell_at : Fn P w K mg base CX0 "_law_cell_at" ["script", "k"] [] 1 (sp_law_cell_at K)) (c_law_all : Fn P w K mg base CX0 "_law_all" ["size"] [] 1 sp_law_all) (c_law_roads : Fn P w K mg base CX0 "_law_roads" ["above", "below"] [] 1 (sp_law_roads K)) (c_rows_with : Fn P w K mg base CX0 "rows_with" ["size", "roads"] [] 9 sp_rows_with) (c_law_whole : Fn P w K mg base CX0 "_law_whole" ["found"] [] 1 sp_law_whole) (mlen : mg "len" = none) : FnOk P w K mg base CX0 10 f fd ["script"] (sp_law K) := by
  refine F.ok (k := 9) sc_law (fun vs H Q E h => ?_) (fun cdv A outer s H vs Q E hr h => ?_)
  · obtain ⟨_, _, rfl, _⟩ := h; rfl
  obtain ⟨a, ns, rfl, hS, hz, q⟩ := h
  have nd := sc_law.nd
  obtain ⟨t, h, q1⟩ := law_rest (H0 := H) (E := E) (outer := outer) hr c_law_cell_at c_law_all c_law_roads c_rows_with c_law_whole mlen q
  refine ⟨_, (pss_cons (ps_set (i := 1) nd rfl (Or.inl rfl) (pe_op op_add pe_int (pe_op op_mod (pe_fn c_law_cell_at hr (by decide) rfl (pa_cons (pv 0) (pa_cons pe_int pa_nil))) pe_int)))
  (pss_cons (ps_set (i := 2) nd rfl (Or.inl rfl) (pe_fn c_law_all hr (by decide) rfl (pa_cons (pv 1) pa_nil)))
  (pss_cons (ps_set (i := 3) nd rfl (Or.inr rfl) (pe_op op_add pe_int (pe_op op_mod (pe_fn c_law_cell_at hr (by decide) rfl (pa_cons (pv 0) (pa_cons pe_int pa_nil))) (pv 1))))
  (pss_cons (ps_set (i := 4) nd rfl (Or.inl rfl) pe_int)
  (pss_cons (ps_for PassesOwn.never rfl (pi_list (pv 2)) (pg_name (i := 5) nd rfl (Or.inr rfl)) (pss_one (ps_set (i := 4) nd rfl (Or.inl rfl) (pe_op op_add (pv 4) (pe_callB call_len_seq rfl mlen PySem.boot_len (pa_cons (pe_comp (compOk (N' := ["below", "wanted", "above"]) (js := [none, some 3, some 5]) (N := ["script", "size", "some", "wanted", "due", "above", "found"]) (sc := defScope s_law) rfl rfl rfl (by decide +kernel) (by decide +kernel) (by decide +kernel) rfl (by decide +kernel)) rfl (pi_list (pv 2)) (fun _ _ _ _ _ => (pg_name (i := 0) (show [("below" : PySem.Str), ("wanted" : PySem.Str), ("above" : PySem.Str)].Nodup by decide +kernel) rfl (Or.inl rfl))) (fun _ _ _ _ _ => pf_one (pt_cmpR op_eq (pe_callB (call_len_seqK (K := K) rfl) rfl mlen PySem.boot_len (pa_cons (pe_fn c_law_roads hr (by decide) rfl (pa_cons (pv 2) (pa_cons (pv 0) pa_nil))) pa_nil)) (pv 1) (nomark _))) (fun _ _ _ _ _ => (pv 0))) pa_nil))))))
  (pss_cons (ps_set (i := 6) nd rfl (Or.inl rfl) (pe_fn c_rows_with hr (by decide) rfl (pa_cons (pv 1) (pa_cons (pv 3) pa_nil))))
  (pss_cons (ps_if (PW.pt (pw_or (pt_not (pt_val (pe_fn c_law_whole hr (by decide) rfl (pa_cons (pv 6) pa_nil)))) (pw_or1 (pt_cmpR op_ne (pv 6) (pv 4) (nomark _))))) (pss_one (ps_ret pe_bl)) pss_nil)
  (pss_cons (ps_if (pt_cmpR op_ne (pe_op op_mod (pe_fn c_law_cell_at hr (by decide) rfl (pa_cons (pv 0) (pa_cons pe_int pa_nil))) pe_int) pe_int (nomark _)) (pss_one (ps_ret pe_bl)) pss_nil)
  h)))))))), ?_⟩
  obtain ⟨m, em⟩ : ∃ m : Nat, (m : Int) = 1 + cellAt ns 0 % 4 := ⟨(1 + cellAt ns 0 % 4).toNat, by omega⟩
  have m1 : 1 ≤ m := by omega
  have m2 : m ≤ 5 := by omega
  (repeat (first | refine ⟨_, rfl, ?_⟩ | refine ⟨_, _, rfl, rfl, ?_⟩ | refine ⟨rfl, ?_⟩ | refine ⟨_, _, rfl, .inl (by assumption), ?_⟩ | refine ⟨Or.inl ⟨by decide, by decide⟩, ?_⟩ | refine ⟨(by show (0 : Int) < _; decide), ?_⟩ | refine ⟨⟨by decide, by decide⟩, ?_⟩))
  refine ⟨a, ns, 0, rfl, hS, by decide, ?_⟩
  (repeat (first | refine ⟨_, rfl, ?_⟩ | refine ⟨_, _, rfl, rfl, ?_⟩ | refine ⟨rfl, ?_⟩ | refine ⟨_, _, rfl, .inl (by assumption), ?_⟩ | refine ⟨Or.inl ⟨by decide, by decide⟩, ?_⟩ | refine ⟨(by show (0 : Int) < _; decide), ?_⟩ | refine ⟨⟨by decide, by decide⟩, ?_⟩))
  dsimp only
  rw [← em]
  refine ⟨m, rfl, m1, m2, fun rd H1 ds gs S1 hrd ed nrd RR hgs hws => ?_⟩
  have dgl : ds.length = gs.length := by rw [RR.len, List.length_map]
  have gl : gs.length = W m m := by
    have := congrArg List.length hws
    simpa using this
  have wb := W_small m2
  (repeat (first | refine ⟨_, rfl, ?_⟩ | refine ⟨_, _, rfl, rfl, ?_⟩ | refine ⟨rfl, ?_⟩ | refine ⟨_, _, rfl, .inl (by assumption), ?_⟩ | refine ⟨Or.inl ⟨by decide, by decide⟩, ?_⟩ | refine ⟨(by show (0 : Int) < _; decide), ?_⟩ | refine ⟨⟨by decide, by decide⟩, ?_⟩))
  refine ⟨a, ns, 1, rfl, S1.seq hS, by decide, ?_⟩
  (repeat (first | refine ⟨_, rfl, ?_⟩ | refine ⟨_, _, rfl, rfl, ?_⟩ | refine ⟨rfl, ?_⟩ | refine ⟨_, _, rfl, .inl (by assumption), ?_⟩ | refine ⟨Or.inl ⟨by decide, by decide⟩, ?_⟩ | refine ⟨(by show (0 : Int) < _; decide), ?_⟩ | refine ⟨⟨by decide, by decide⟩, ?_⟩))
  refine ⟨(by show (0 : Int) < (m : Int); omega), ?_⟩
  have b0 := Int.emod_nonneg (cellAt ns 1) (show ((m : Int)) ≠ 0 by omega)
  have b1 := Int.emod_lt_of_pos (cellAt ns 1) (show 0 < (m : Int) by omega)
  obtain ⟨k, ek⟩ : ∃ k : Nat, (k : Int) = 1 + cellAt ns 1 % (m : Int) := ⟨(1 + cellAt ns 1 % (m : Int)).toNat, by omega⟩
  (repeat (first | refine ⟨_, rfl, ?_⟩ | refine ⟨_, _, rfl, rfl, ?_⟩ | refine ⟨rfl, ?_⟩ | refine ⟨_, _, rfl, .inl (by assumption), ?_⟩ | refine ⟨Or.inl ⟨by decide, by decide⟩, ?_⟩ | refine ⟨(by show (0 : Int) < _; decide), ?_⟩ | refine ⟨⟨by decide, by decide⟩, ?_⟩))
  refine ⟨⟨_, SqL.of ed⟩, ?_⟩
  refine for_list (xs := ds.map V.ref) (fun i σ H' => Same H1 H' ∧ ∃ u, σ = [some (.ref a), some (.int (m : Nat)), some (.ref rd), some (.int (1 + cellAt ns 1 % (m : Int))), some (.int (cntP m k (gs.take i) gs : Nat)), u, none]) ⟨Same.refl _, _, by simp [cntP]; rfl⟩ (fun i σ H' _ h => SqL.of (h.1 _ _ ed)) ?_ ?_
  · rintro i x σ Hx hx ⟨Sx, u, rfl⟩
    rw [List.getElem?_map] at hx
    obtain ⟨ax, hax, rfl⟩ := Option.map_eq_some_iff.mp hx
    obtain ⟨g, hg, eg⟩ := RR.arcs hax
    have hA := hgs g (List.mem_of_getElem? hg)
    have hds : SqL K Hx rd (ds.map V.ref) := SqL.of (Sx _ _ ed)
    (repeat (first | refine ⟨_, rfl, ?_⟩ | refine ⟨_, _, rfl, rfl, ?_⟩ | refine ⟨rfl, ?_⟩ | refine ⟨_, _, rfl, .inl (by assumption), ?_⟩ | refine ⟨Or.inl ⟨by decide, by decide⟩, ?_⟩ | refine ⟨(by show (0 : Int) < _; decide), ?_⟩ | refine ⟨⟨by decide, by decide⟩, ?_⟩))
    refine ⟨⟨_, hds⟩, fun p hp => ?_⟩
    refine comp_if ds.length (fun j => decide (many (2 * m) g (gs.getD j fun _ => 0) = k)) (fun j => .ref (ds.getD j 0)) (fun σ => ∃ u, σ = [u, some (.int (1 + cellAt ns 1 % (m : Int))), some (.ref ax)]) (small60 (by omega)) ⟨_, rfl⟩ hp (fun j H' hj S' => ⟨_, _, S'.seq hds, by rw [List.getElem?_map, List.getElem?_eq_getElem hj]; rfl⟩) (fun H' S' => ⟨_, S'.seq hds, by rw [List.length_map]; exact Nat.le_refl _⟩) ?_ ?_
    · rintro j x σ' H' H3 kT kF hj ⟨u, rfl⟩ S' ⟨rfl, hx⟩ hT hF
      have hx' := hx _ (S'.seq hds)
      have hbx : ds[j]? = some ds[j] := List.getElem?_eq_getElem hj
      rw [List.getElem?_map, hbx] at hx'
      have ex : x = .ref ds[j] := (Option.some.inj hx').symm
      subst ex
      obtain ⟨b, hb, eb⟩ := RR.arcs hbx
      have hB := hgs b (List.mem_of_getElem? hb)
      have gb : gs.getD j (fun _ => 0) = b := by rw [List.getD_eq_getElem?_getD, hb]; rfl
      have db : ds.getD j 0 = ds[j] := by rw [List.getD_eq_getElem?_getD, hbx]; rfl
      have Sy := Sx.trans S'
      (repeat (first | refine ⟨_, rfl, ?_⟩ | refine ⟨_, _, rfl, rfl, ?_⟩ | refine ⟨rfl, ?_⟩ | refine ⟨_, _, rfl, .inl (by assumption), ?_⟩ | refine ⟨Or.inl ⟨by decide, by decide⟩, ?_⟩ | refine ⟨(by show (0 : Int) < _; decide), ?_⟩ | refine ⟨⟨by decide, by decide⟩, ?_⟩))
      refine ⟨ax, ds[j], 2 * m, g, b, rfl, SqL.of (Sy _ _ eg), SqL.of (Sy _ _ eb), hA.pairs, hB.pairs, by omega, fun rr H4 as4 S4 hrr e4 nr4 R4 => ?_⟩
      (repeat (first | refine ⟨_, rfl, ?_⟩ | refine ⟨_, _, rfl, rfl, ?_⟩ | refine ⟨rfl, ?_⟩ | refine ⟨_, _, rfl, .inl (by assumption), ?_⟩ | refine ⟨Or.inl ⟨by decide, by decide⟩, ?_⟩ | refine ⟨(by show (0 : Int) < _; decide), ?_⟩ | refine ⟨⟨by decide, by decide⟩, ?_⟩))
      refine ⟨rr, _, rfl, .inl (SqL.of e4), ?_⟩
      have l4 : (as4.map V.ref).length = many (2 * m) g b := by rw [List.length_map, R4.len, List.length_map]; exact scan_many hA.pairs hB.pairs
      (repeat (first | refine ⟨_, rfl, ?_⟩ | refine ⟨_, _, rfl, rfl, ?_⟩ | refine ⟨rfl, ?_⟩ | refine ⟨_, _, rfl, .inl (by assumption), ?_⟩ | refine ⟨Or.inl ⟨by decide, by decide⟩, ?_⟩ | refine ⟨(by show (0 : Int) < _; decide), ?_⟩ | refine ⟨⟨by decide, by decide⟩, ?_⟩))
      refine ite2 (fun c => ?_) (fun c => ?_)
      · have c' : many (2 * m) g b = k := by have := eq_yes c; rw [l4] at this; omega
        (repeat (first | refine ⟨_, rfl, ?_⟩ | refine ⟨_, _, rfl, rfl, ?_⟩ | refine ⟨rfl, ?_⟩ | refine ⟨_, _, rfl, .inl (by assumption), ?_⟩ | refine ⟨Or.inl ⟨by decide, by decide⟩, ?_⟩ | refine ⟨(by show (0 : Int) < _; decide), ?_⟩ | refine ⟨⟨by decide, by decide⟩, ?_⟩))
        exact hT (decide_eq_true (by rw [gb]; exact c')) _ _ _ ⟨_, rfl⟩ (by rw [db]) S4
      · have c' : ¬ many (2 * m) g b = k := fun z => eq_no c (by rw [l4, z]; exact ek)
        exact hF (decide_eq_false (by rw [gb]; exact c')) _ _ ⟨_, rfl⟩ S4
    intro H4 S4 e4
    (repeat (first | refine ⟨_, rfl, ?_⟩ | refine ⟨_, _, rfl, rfl, ?_⟩ | refine ⟨rfl, ?_⟩ | refine ⟨_, _, rfl, .inl (by assumption), ?_⟩ | refine ⟨Or.inl ⟨by decide, by decide⟩, ?_⟩ | refine ⟨(by show (0 : Int) < _; decide), ?_⟩ | refine ⟨⟨by decide, by decide⟩, ?_⟩))
    refine ⟨p, _, rfl, .inl (SqL.of e4), ?_⟩
    have lc : (((List.range ds.length).filter fun j => decide (many (2 * m) g (gs.getD j fun _ => 0) = k)).map fun j => V.ref (ds.getD j 0)).length = cnt1 m k g gs := by
      rw [List.length_map, dgl]
      exact cnt1_range m k g gs
    rw [lc]
    (repeat (first | refine ⟨_, rfl, ?_⟩ | refine ⟨_, _, rfl, rfl, ?_⟩ | refine ⟨rfl, ?_⟩ | refine ⟨_, _, rfl, .inl (by assumption), ?_⟩ | refine ⟨Or.inl ⟨by decide, by decide⟩, ?_⟩ | refine ⟨(by show (0 : Int) < _; decide), ?_⟩ | refine ⟨⟨by decide, by decide⟩, ?_⟩))
    refine ⟨Sx.trans S4, some (.ref ax), ?_⟩
    rw [cntP_take hg]
    rfl
  rintro σ Hx ⟨Sx, u, rfl⟩
  rw [List.length_map, dgl, List.take_length]
  (repeat (first | refine ⟨_, rfl, ?_⟩ | refine ⟨_, _, rfl, rfl, ?_⟩ | refine ⟨rfl, ?_⟩ | refine ⟨_, _, rfl, .inl (by assumption), ?_⟩ | refine ⟨Or.inl ⟨by decide, by decide⟩, ?_⟩ | refine ⟨(by show (0 : Int) < _; decide), ?_⟩ | refine ⟨⟨by decide, by decide⟩, ?_⟩))
  refine ⟨m, k, by rw [ek]; rfl, m1, m2, by omega, by omega, fun H9 gs9 S9 hgs9 hws9 => ?_⟩
  rw [cnt_same (k := k) hgs9 hgs (by rw [hws9, hws])]
  (repeat (first | refine ⟨_, rfl, ?_⟩ | refine ⟨_, _, rfl, rfl, ?_⟩ | refine ⟨rfl, ?_⟩ | refine ⟨_, _, rfl, .inl (by assumption), ?_⟩ | refine ⟨Or.inl ⟨by decide, by decide⟩, ?_⟩ | refine ⟨(by show (0 : Int) < _; decide), ?_⟩ | refine ⟨⟨by decide, by decide⟩, ?_⟩))
  (try refine iteF ?_)
  (repeat (first | refine ⟨_, rfl, ?_⟩ | refine ⟨_, _, rfl, rfl, ?_⟩ | refine ⟨rfl, ?_⟩ | refine ⟨_, _, rfl, .inl (by assumption), ?_⟩ | refine ⟨Or.inl ⟨by decide, by decide⟩, ?_⟩ | refine ⟨(by show (0 : Int) < _; decide), ?_⟩ | refine ⟨⟨by decide, by decide⟩, ?_⟩))
  refine ite2 (fun c => absurd rfl (ne_yes c)) (fun _ => ?_)
  have hS9 := S9.seq (Sx.seq (S1.seq hS))
  (repeat (first | refine ⟨_, rfl, ?_⟩ | refine ⟨_, _, rfl, rfl, ?_⟩ | refine ⟨rfl, ?_⟩ | refine ⟨_, _, rfl, .inl (by assumption), ?_⟩ | refine ⟨Or.inl ⟨by decide, by decide⟩, ?_⟩ | refine ⟨(by show (0 : Int) < _; decide), ?_⟩ | refine ⟨⟨by decide, by decide⟩, ?_⟩))
  refine ⟨a, ns, 2, rfl, hS9, by decide, ?_⟩
  (repeat (first | refine ⟨_, rfl, ?_⟩ | refine ⟨_, _, rfl, rfl, ?_⟩ | refine ⟨rfl, ?_⟩ | refine ⟨_, _, rfl, .inl (by assumption), ?_⟩ | refine ⟨Or.inl ⟨by decide, by decide⟩, ?_⟩ | refine ⟨(by show (0 : Int) < _; decide), ?_⟩ | refine ⟨⟨by decide, by decide⟩, ?_⟩))
  refine ite2 (fun _ => ?_) (fun _ => ?_)
  · (repeat (first | refine ⟨_, rfl, ?_⟩ | refine ⟨_, _, rfl, rfl, ?_⟩ | refine ⟨rfl, ?_⟩ | refine ⟨_, _, rfl, .inl (by assumption), ?_⟩ | refine ⟨Or.inl ⟨by decide, by decide⟩, ?_⟩ | refine ⟨(by show (0 : Int) < _; decide), ?_⟩ | refine ⟨⟨by decide, by decide⟩, ?_⟩))
    exact q H9
  · exact q1 H9 a ns _ _ _ _ _ _ hS9

end
end Rl
namespace Rl
open PySem L2
theorem all_mk {l : PySem.W.OpenLaw} {w : World} {K : PySem.W.Frag} {h : Heap} {mg : Str → Option Value} {fa : Addr} (X : K.In h) (G : h.Ns mainGlobals mg) (hfa : mg "law" = some (.ref fa))
    {f_is_length : Addr} {od_is_length an_is_length : Option Addr} {sl_is_length : Array (Option Value)} {oc_is_length kV_is_length dc_is_length pm_is_length cd_is_length ct_is_length : Value}
    (a_is_length : PySem.W.nsIn K mainGlobals "is_length" = some (some (.ref f_is_length))) (l_is_length : K.lookup f_is_length = some ⟨oc_is_length, od_is_length, .func (PySem.W.fnOf "is_length" "is_length" (defArgs s_is_length) (defBody s_is_length) (defScope s_is_length) .none kV_is_length dc_is_length pm_is_length an_is_length cd_is_length ct_is_length), sl_is_length⟩) (i_is_length : PySem.W.codeIn K cd_is_length "is_length" = true) (k_is_length : PySem.W.keepIn K (.ref f_is_length) = true)
    {f_leads_back : Addr} {od_leads_back an_leads_back : Option Addr} {sl_leads_back : Array (Option Value)} {oc_leads_back kV_leads_back dc_leads_back pm_leads_back cd_leads_back ct_leads_back : Value}
    (a_leads_back : PySem.W.nsIn K mainGlobals "leads_back" = some (some (.ref f_leads_back))) (l_leads_back : K.lookup f_leads_back = some ⟨oc_leads_back, od_leads_back, .func (PySem.W.fnOf "leads_back" "leads_back" (defArgs s_leads_back) (defBody s_leads_back) (defScope s_leads_back) .none kV_leads_back dc_leads_back pm_leads_back an_leads_back cd_leads_back ct_leads_back), sl_leads_back⟩) (i_leads_back : PySem.W.codeIn K cd_leads_back "leads_back" = true) (k_leads_back : PySem.W.keepIn K (.ref f_leads_back) = true)
    {f_all_lead_back : Addr} {od_all_lead_back an_all_lead_back : Option Addr} {sl_all_lead_back : Array (Option Value)} {oc_all_lead_back kV_all_lead_back dc_all_lead_back pm_all_lead_back cd_all_lead_back ct_all_lead_back : Value}
    (a_all_lead_back : PySem.W.nsIn K mainGlobals "all_lead_back" = some (some (.ref f_all_lead_back))) (l_all_lead_back : K.lookup f_all_lead_back = some ⟨oc_all_lead_back, od_all_lead_back, .func (PySem.W.fnOf "all_lead_back" "all_lead_back" (defArgs s_all_lead_back) (defBody s_all_lead_back) (defScope s_all_lead_back) .none kV_all_lead_back dc_all_lead_back pm_all_lead_back an_all_lead_back cd_all_lead_back ct_all_lead_back), sl_all_lead_back⟩) (i_all_lead_back : PySem.W.codeIn K cd_all_lead_back "all_lead_back" = true) (k_all_lead_back : PySem.W.keepIn K (.ref f_all_lead_back) = true)
    {f_none_cross : Addr} {od_none_cross an_none_cross : Option Addr} {sl_none_cross : Array (Option Value)} {oc_none_cross kV_none_cross dc_none_cross pm_none_cross cd_none_cross ct_none_cross : Value}
    (a_none_cross : PySem.W.nsIn K mainGlobals "none_cross" = some (some (.ref f_none_cross))) (l_none_cross : K.lookup f_none_cross = some ⟨oc_none_cross, od_none_cross, .func (PySem.W.fnOf "none_cross" "none_cross" (defArgs s_none_cross) (defBody s_none_cross) (defScope s_none_cross) .none kV_none_cross dc_none_cross pm_none_cross an_none_cross cd_none_cross ct_none_cross), sl_none_cross⟩) (i_none_cross : PySem.W.codeIn K cd_none_cross "none_cross" = true) (k_none_cross : PySem.W.keepIn K (.ref f_none_cross) = true)
    {f_is_arcs : Addr} {od_is_arcs an_is_arcs : Option Addr} {sl_is_arcs : Array (Option Value)} {oc_is_arcs kV_is_arcs dc_is_arcs pm_is_arcs cd_is_arcs ct_is_arcs : Value}
    (a_is_arcs : PySem.W.nsIn K mainGlobals "is_arcs" = some (some (.ref f_is_arcs))) (l_is_arcs : K.lookup f_is_arcs = some ⟨oc_is_arcs, od_is_arcs, .func (PySem.W.fnOf "is_arcs" "is_arcs" (defArgs s_is_arcs) (defBody s_is_arcs) (defScope s_is_arcs) .none kV_is_arcs dc_is_arcs pm_is_arcs an_is_arcs cd_is_arcs ct_is_arcs), sl_is_arcs⟩) (i_is_arcs : PySem.W.codeIn K cd_is_arcs "is_arcs" = true) (k_is_arcs : PySem.W.keepIn K (.ref f_is_arcs) = true)
    {f_refuse_no_arcs : Addr} {od_refuse_no_arcs an_refuse_no_arcs : Option Addr} {sl_refuse_no_arcs : Array (Option Value)} {oc_refuse_no_arcs kV_refuse_no_arcs dc_refuse_no_arcs pm_refuse_no_arcs cd_refuse_no_arcs ct_refuse_no_arcs : Value}
    {T_refuse_no_arcs : Addr} {ot_refuse_no_arcs : Obj} {tn_refuse_no_arcs : Nat} {tt_refuse_no_arcs : Tok}
    (a_refuse_no_arcs : PySem.W.nsIn K mainGlobals "refuse_no_arcs" = some (some (.ref f_refuse_no_arcs))) (l_refuse_no_arcs : K.lookup f_refuse_no_arcs = some ⟨oc_refuse_no_arcs, od_refuse_no_arcs, .func (PySem.W.fnOf "refuse_no_arcs" "refuse_no_arcs" (defArgs s_refuse_no_arcs) (defBody s_refuse_no_arcs) (defScope s_refuse_no_arcs) (.ref T_refuse_no_arcs) kV_refuse_no_arcs dc_refuse_no_arcs pm_refuse_no_arcs an_refuse_no_arcs cd_refuse_no_arcs ct_refuse_no_arcs), sl_refuse_no_arcs⟩) (i_refuse_no_arcs : PySem.W.codeIn K cd_refuse_no_arcs "refuse_no_arcs" = true) (k_refuse_no_arcs : PySem.W.keepIn K (.ref f_refuse_no_arcs) = true)
    (t_refuse_no_arcs : K.lookup T_refuse_no_arcs = some ot_refuse_no_arcs) (d_refuse_no_arcs : ot_refuse_no_arcs.data = .seq #[.str "the list" tt_refuse_no_arcs] tn_refuse_no_arcs)
    {f_refuse_no_rows : Addr} {od_refuse_no_rows an_refuse_no_rows : Option Addr} {sl_refuse_no_rows : Array (Option Value)} {oc_refuse_no_rows kV_refuse_no_rows dc_refuse_no_rows pm_refuse_no_rows cd_refuse_no_rows ct_refuse_no_rows : Value}
    (a_refuse_no_rows : PySem.W.nsIn K mainGlobals "refuse_no_rows" = some (some (.ref f_refuse_no_rows))) (l_refuse_no_rows : K.lookup f_refuse_no_rows = some ⟨oc_refuse_no_rows, od_refuse_no_rows, .func (PySem.W.fnOf "refuse_no_rows" "refuse_no_rows" (defArgs s_refuse_no_rows) (defBody s_refuse_no_rows) (defScope s_refuse_no_rows) .none kV_refuse_no_rows dc_refuse_no_rows pm_refuse_no_rows an_refuse_no_rows cd_refuse_no_rows ct_refuse_no_rows), sl_refuse_no_rows⟩) (i_refuse_no_rows : PySem.W.codeIn K cd_refuse_no_rows "refuse_no_rows" = true) (k_refuse_no_rows : PySem.W.keepIn K (.ref f_refuse_no_rows) = true)
    {f_refuse_unlike : Addr} {od_refuse_unlike an_refuse_unlike : Option Addr} {sl_refuse_unlike : Array (Option Value)} {oc_refuse_unlike kV_refuse_unlike dc_refuse_unlike pm_refuse_unlike cd_refuse_unlike ct_refuse_unlike : Value}
    (a_refuse_unlike : PySem.W.nsIn K mainGlobals "refuse_unlike" = some (some (.ref f_refuse_unlike))) (l_refuse_unlike : K.lookup f_refuse_unlike = some ⟨oc_refuse_unlike, od_refuse_unlike, .func (PySem.W.fnOf "refuse_unlike" "refuse_unlike" (defArgs s_refuse_unlike) (defBody s_refuse_unlike) (defScope s_refuse_unlike) .none kV_refuse_unlike dc_refuse_unlike pm_refuse_unlike an_refuse_unlike cd_refuse_unlike ct_refuse_unlike), sl_refuse_unlike⟩) (i_refuse_unlike : PySem.W.codeIn K cd_refuse_unlike "refuse_unlike" = true) (k_refuse_unlike : PySem.W.keepIn K (.ref f_refuse_unlike) = true)
    {f_join_bridges : Addr} {od_join_bridges an_join_bridges : Option Addr} {sl_join_bridges : Array (Option Value)} {oc_join_bridges kV_join_bridges dc_join_bridges pm_join_bridges cd_join_bridges ct_join_bridges : Value}
    (a_join_bridges : PySem.W.nsIn K mainGlobals "join_bridges" = some (some (.ref f_join_bridges))) (l_join_bridges : K.lookup f_join_bridges = some ⟨oc_join_bridges, od_join_bridges, .func (PySem.W.fnOf "join_bridges" "join_bridges" (defArgs s_join_bridges) (defBody s_join_bridges) (defScope s_join_bridges) .none kV_join_bridges dc_join_bridges pm_join_bridges an_join_bridges cd_join_bridges ct_join_bridges), sl_join_bridges⟩) (i_join_bridges : PySem.W.codeIn K cd_join_bridges "join_bridges" = true) (k_join_bridges : PySem.W.keepIn K (.ref f_join_bridges) = true)
    {f_arcs_of : Addr} {od_arcs_of an_arcs_of : Option Addr} {sl_arcs_of : Array (Option Value)} {oc_arcs_of kV_arcs_of dc_arcs_of pm_arcs_of cd_arcs_of ct_arcs_of : Value}
    (a_arcs_of : PySem.W.nsIn K mainGlobals "arcs_of" = some (some (.ref f_arcs_of))) (l_arcs_of : K.lookup f_arcs_of = some ⟨oc_arcs_of, od_arcs_of, .func (PySem.W.fnOf "arcs_of" "arcs_of" (defArgs s_arcs_of) (defBody s_arcs_of) (defScope s_arcs_of) .none kV_arcs_of dc_arcs_of pm_arcs_of an_arcs_of cd_arcs_of ct_arcs_of), sl_arcs_of⟩) (i_arcs_of : PySem.W.codeIn K cd_arcs_of "arcs_of" = true) (k_arcs_of : PySem.W.keepIn K (.ref f_arcs_of) = true)
    {f_refuse_no_number : Addr} {od_refuse_no_number an_refuse_no_number : Option Addr} {sl_refuse_no_number : Array (Option Value)} {oc_refuse_no_number kV_refuse_no_number dc_refuse_no_number pm_refuse_no_number cd_refuse_no_number ct_refuse_no_number : Value}
    (a_refuse_no_number : PySem.W.nsIn K mainGlobals "refuse_no_number" = some (some (.ref f_refuse_no_number))) (l_refuse_no_number : K.lookup f_refuse_no_number = some ⟨oc_refuse_no_number, od_refuse_no_number, .func (PySem.W.fnOf "refuse_no_number" "refuse_no_number" (defArgs s_refuse_no_number) (defBody s_refuse_no_number) (defScope s_refuse_no_number) .none kV_refuse_no_number dc_refuse_no_number pm_refuse_no_number an_refuse_no_number cd_refuse_no_number ct_refuse_no_number), sl_refuse_no_number⟩) (i_refuse_no_number : PySem.W.codeIn K cd_refuse_no_number "refuse_no_number" = true) (k_refuse_no_number : PySem.W.keepIn K (.ref f_refuse_no_number) = true)
    {f_refuse_no_size : Addr} {od_refuse_no_size an_refuse_no_size : Option Addr} {sl_refuse_no_size : Array (Option Value)} {oc_refuse_no_size kV_refuse_no_size dc_refuse_no_size pm_refuse_no_size cd_refuse_no_size ct_refuse_no_size : Value}
    (a_refuse_no_size : PySem.W.nsIn K mainGlobals "refuse_no_size" = some (some (.ref f_refuse_no_size))) (l_refuse_no_size : K.lookup f_refuse_no_size = some ⟨oc_refuse_no_size, od_refuse_no_size, .func (PySem.W.fnOf "refuse_no_size" "refuse_no_size" (defArgs s_refuse_no_size) (defBody s_refuse_no_size) (defScope s_refuse_no_size) .none kV_refuse_no_size dc_refuse_no_size pm_refuse_no_size an_refuse_no_size cd_refuse_no_size ct_refuse_no_size), sl_refuse_no_size⟩) (i_refuse_no_size : PySem.W.codeIn K cd_refuse_no_size "refuse_no_size" = true) (k_refuse_no_size : PySem.W.keepIn K (.ref f_refuse_no_size) = true)
    {f_all_ways : Addr} {od_all_ways an_all_ways : Option Addr} {sl_all_ways : Array (Option Value)} {oc_all_ways kV_all_ways dc_all_ways pm_all_ways cd_all_ways ct_all_ways : Value}
    (a_all_ways : PySem.W.nsIn K mainGlobals "all_ways" = some (some (.ref f_all_ways))) (l_all_ways : K.lookup f_all_ways = some ⟨oc_all_ways, od_all_ways, .func (PySem.W.fnOf "all_ways" "all_ways" (defArgs s_all_ways) (defBody s_all_ways) (defScope s_all_ways) .none kV_all_ways dc_all_ways pm_all_ways an_all_ways cd_all_ways ct_all_ways), sl_all_ways⟩) (i_all_ways : PySem.W.codeIn K cd_all_ways "all_ways" = true) (k_all_ways : PySem.W.keepIn K (.ref f_all_ways) = true)
    {f_ways_with_opening : Addr} {od_ways_with_opening an_ways_with_opening : Option Addr} {sl_ways_with_opening : Array (Option Value)} {oc_ways_with_opening kV_ways_with_opening dc_ways_with_opening pm_ways_with_opening cd_ways_with_opening ct_ways_with_opening : Value}
    (a_ways_with_opening : PySem.W.nsIn K mainGlobals "ways_with_opening" = some (some (.ref f_ways_with_opening))) (l_ways_with_opening : K.lookup f_ways_with_opening = some ⟨oc_ways_with_opening, od_ways_with_opening, .func (PySem.W.fnOf "ways_with_opening" "ways_with_opening" (defArgs s_ways_with_opening) (defBody s_ways_with_opening) (defScope s_ways_with_opening) .none kV_ways_with_opening dc_ways_with_opening pm_ways_with_opening an_ways_with_opening cd_ways_with_opening ct_ways_with_opening), sl_ways_with_opening⟩) (i_ways_with_opening : PySem.W.codeIn K cd_ways_with_opening "ways_with_opening" = true) (k_ways_with_opening : PySem.W.keepIn K (.ref f_ways_with_opening) = true)
    {f_many : Addr} {od_many an_many : Option Addr} {sl_many : Array (Option Value)} {oc_many kV_many dc_many pm_many cd_many ct_many : Value}
    (a_many : PySem.W.nsIn K mainGlobals "many" = some (some (.ref f_many))) (l_many : K.lookup f_many = some ⟨oc_many, od_many, .func (PySem.W.fnOf "many" "many" (defArgs s_many) (defBody s_many) (defScope s_many) .none kV_many dc_many pm_many an_many cd_many ct_many), sl_many⟩) (i_many : PySem.W.codeIn K cd_many "many" = true) (k_many : PySem.W.keepIn K (.ref f_many) = true)
    {f_arcs_at : Addr} {od_arcs_at an_arcs_at : Option Addr} {sl_arcs_at : Array (Option Value)} {oc_arcs_at kV_arcs_at dc_arcs_at pm_arcs_at cd_arcs_at ct_arcs_at : Value}
    (a_arcs_at : PySem.W.nsIn K mainGlobals "arcs_at" = some (some (.ref f_arcs_at))) (l_arcs_at : K.lookup f_arcs_at = some ⟨oc_arcs_at, od_arcs_at, .func (PySem.W.fnOf "arcs_at" "arcs_at" (defArgs s_arcs_at) (defBody s_arcs_at) (defScope s_arcs_at) .none kV_arcs_at dc_arcs_at pm_arcs_at an_arcs_at cd_arcs_at ct_arcs_at), sl_arcs_at⟩) (i_arcs_at : PySem.W.codeIn K cd_arcs_at "arcs_at" = true) (k_arcs_at : PySem.W.keepIn K (.ref f_arcs_at) = true)
    {f_road_from : Addr} {od_road_from an_road_from : Option Addr} {sl_road_from : Array (Option Value)} {oc_road_from kV_road_from dc_road_from pm_road_from cd_road_from ct_road_from : Value}
    (a_road_from : PySem.W.nsIn K mainGlobals "road_from" = some (some (.ref f_road_from))) (l_road_from : K.lookup f_road_from = some ⟨oc_road_from, od_road_from, .func (PySem.W.fnOf "road_from" "road_from" (defArgs s_road_from) (defBody s_road_from) (defScope s_road_from) .none kV_road_from dc_road_from pm_road_from an_road_from cd_road_from ct_road_from), sl_road_from⟩) (i_road_from : PySem.W.codeIn K cd_road_from "road_from" = true) (k_road_from : PySem.W.keepIn K (.ref f_road_from) = true)
    {f_roads : Addr} {od_roads an_roads : Option Addr} {sl_roads : Array (Option Value)} {oc_roads kV_roads dc_roads pm_roads cd_roads ct_roads : Value}
    (a_roads : PySem.W.nsIn K mainGlobals "roads" = some (some (.ref f_roads))) (l_roads : K.lookup f_roads = some ⟨oc_roads, od_roads, .func (PySem.W.fnOf "roads" "roads" (defArgs s_roads) (defBody s_roads) (defScope s_roads) .none kV_roads dc_roads pm_roads an_roads cd_roads ct_roads), sl_roads⟩) (i_roads : PySem.W.codeIn K cd_roads "roads" = true) (k_roads : PySem.W.keepIn K (.ref f_roads) = true)
    {f_many_roads : Addr} {od_many_roads an_many_roads : Option Addr} {sl_many_roads : Array (Option Value)} {oc_many_roads kV_many_roads dc_many_roads pm_many_roads cd_many_roads ct_many_roads : Value}
    (a_many_roads : PySem.W.nsIn K mainGlobals "many_roads" = some (some (.ref f_many_roads))) (l_many_roads : K.lookup f_many_roads = some ⟨oc_many_roads, od_many_roads, .func (PySem.W.fnOf "many_roads" "many_roads" (defArgs s_many_roads) (defBody s_many_roads) (defScope s_many_roads) .none kV_many_roads dc_many_roads pm_many_roads an_many_roads cd_many_roads ct_many_roads), sl_many_roads⟩) (i_many_roads : PySem.W.codeIn K cd_many_roads "many_roads" = true) (k_many_roads : PySem.W.keepIn K (.ref f_many_roads) = true)
    {f_rows_with : Addr} {od_rows_with an_rows_with : Option Addr} {sl_rows_with : Array (Option Value)} {oc_rows_with kV_rows_with dc_rows_with pm_rows_with cd_rows_with ct_rows_with : Value}
    (a_rows_with : PySem.W.nsIn K mainGlobals "rows_with" = some (some (.ref f_rows_with))) (l_rows_with : K.lookup f_rows_with = some ⟨oc_rows_with, od_rows_with, .func (PySem.W.fnOf "rows_with" "rows_with" (defArgs s_rows_with) (defBody s_rows_with) (defScope s_rows_with) .none kV_rows_with dc_rows_with pm_rows_with an_rows_with cd_rows_with ct_rows_with), sl_rows_with⟩) (i_rows_with : PySem.W.codeIn K cd_rows_with "rows_with" = true) (k_rows_with : PySem.W.keepIn K (.ref f_rows_with) = true)
    {f_law_cell_at : Addr} {od_law_cell_at an_law_cell_at : Option Addr} {sl_law_cell_at : Array (Option Value)} {oc_law_cell_at kV_law_cell_at dc_law_cell_at pm_law_cell_at cd_law_cell_at ct_law_cell_at : Value}
    (a_law_cell_at : PySem.W.nsIn K mainGlobals "_law_cell_at" = some (some (.ref f_law_cell_at))) (l_law_cell_at : K.lookup f_law_cell_at = some ⟨oc_law_cell_at, od_law_cell_at, .func (PySem.W.fnOf "_law_cell_at" "_law_cell_at" (defArgs s_law_cell_at) (defBody s_law_cell_at) (defScope s_law_cell_at) .none kV_law_cell_at dc_law_cell_at pm_law_cell_at an_law_cell_at cd_law_cell_at ct_law_cell_at), sl_law_cell_at⟩) (i_law_cell_at : PySem.W.codeIn K cd_law_cell_at "_law_cell_at" = true) (k_law_cell_at : PySem.W.keepIn K (.ref f_law_cell_at) = true)
    {f_law_whole : Addr} {od_law_whole an_law_whole : Option Addr} {sl_law_whole : Array (Option Value)} {oc_law_whole kV_law_whole dc_law_whole pm_law_whole cd_law_whole ct_law_whole : Value}
    (a_law_whole : PySem.W.nsIn K mainGlobals "_law_whole" = some (some (.ref f_law_whole))) (l_law_whole : K.lookup f_law_whole = some ⟨oc_law_whole, od_law_whole, .func (PySem.W.fnOf "_law_whole" "_law_whole" (defArgs s_law_whole) (defBody s_law_whole) (defScope s_law_whole) .none kV_law_whole dc_law_whole pm_law_whole an_law_whole cd_law_whole ct_law_whole), sl_law_whole⟩) (i_law_whole : PySem.W.codeIn K cd_law_whole "_law_whole" = true) (k_law_whole : PySem.W.keepIn K (.ref f_law_whole) = true)
    {f_law_roads : Addr} {od_law_roads an_law_roads : Option Addr} {sl_law_roads : Array (Option Value)} {oc_law_roads kV_law_roads dc_law_roads pm_law_roads cd_law_roads ct_law_roads : Value}
    (a_law_roads : PySem.W.nsIn K mainGlobals "_law_roads" = some (some (.ref f_law_roads))) (l_law_roads : K.lookup f_law_roads = some ⟨oc_law_roads, od_law_roads, .func (PySem.W.fnOf "_law_roads" "_law_roads" (defArgs s_law_roads) (defBody s_law_roads) (defScope s_law_roads) .none kV_law_roads dc_law_roads pm_law_roads an_law_roads cd_law_roads ct_law_roads), sl_law_roads⟩) (i_law_roads : PySem.W.codeIn K cd_law_roads "_law_roads" = true) (k_law_roads : PySem.W.keepIn K (.ref f_law_roads) = true)
    {f_law_all : Addr} {od_law_all an_law_all : Option Addr} {sl_law_all : Array (Option Value)} {oc_law_all kV_law_all dc_law_all pm_law_all cd_law_all ct_law_all : Value}
    (a_law_all : PySem.W.nsIn K mainGlobals "_law_all" = some (some (.ref f_law_all))) (l_law_all : K.lookup f_law_all = some ⟨oc_law_all, od_law_all, .func (PySem.W.fnOf "_law_all" "_law_all" (defArgs s_law_all) (defBody s_law_all) (defScope s_law_all) .none kV_law_all dc_law_all pm_law_all an_law_all cd_law_all ct_law_all), sl_law_all⟩) (i_law_all : PySem.W.codeIn K cd_law_all "_law_all" = true) (k_law_all : PySem.W.keepIn K (.ref f_law_all) = true)
    {f_law : Addr} {od_law an_law : Option Addr} {sl_law : Array (Option Value)} {oc_law kV_law dc_law pm_law cd_law ct_law : Value}
    (a_law : PySem.W.nsIn K mainGlobals "law" = some (some (.ref f_law))) (l_law : K.lookup f_law = some ⟨oc_law, od_law, .func (PySem.W.fnOf "law" "law" (defArgs s_law) (defBody s_law) (defScope s_law) .none kV_law dc_law pm_law an_law cd_law ct_law), sl_law⟩) (i_law : PySem.W.codeIn K cd_law "law" = true) (k_law : PySem.W.keepIn K (.ref f_law) = true)
    (z_bool : PySem.W.nsIn K mainGlobals "bool" = some none)
    (z_enumerate : PySem.W.nsIn K mainGlobals "enumerate" = some none)
    (z_int : PySem.W.nsIn K mainGlobals "int" = some none)
    (z_isinstance : PySem.W.nsIn K mainGlobals "isinstance" = some none)
    (z_len : PySem.W.nsIn K mainGlobals "len" = some none)
    (z_list : PySem.W.nsIn K mainGlobals "list" = some none)
    (z_range : PySem.W.nsIn K mainGlobals "range" = some none)
    {g_MOST_ARCS : Tok} (y_MOST_ARCS : PySem.W.nsIn K mainGlobals "MOST_ARCS" = some (some (.int 20 g_MOST_ARCS)))
    {g_MOST_IN_PAIRS : Tok} (y_MOST_IN_PAIRS : PySem.W.nsIn K mainGlobals "MOST_IN_PAIRS" = some (some (.int 5 g_MOST_IN_PAIRS)))
    (kib : PySem.W.kitOne K (.type "int") (.type "bool") = some false) :
    ∃ fd : FuncData, (∀ (s : Shared) (v : Value), BindsTo s fd ⟨[v], []⟩ [("script", v)]) ∧ ∀ base : Heap, K.In base → base.Ns mainGlobals mg → FnOk l.prog w K mg base CX0 10 fa fd ["script"] (sp_law K) := by
  have e := hfa.symm.trans (PySem.W.mg_of X G a_law)
  cases e
  have mbool := PySem.W.mg_none_of X G z_bool
  have menumerate := PySem.W.mg_none_of X G z_enumerate
  have mint := PySem.W.mg_none_of X G z_int
  have misinstance := PySem.W.mg_none_of X G z_isinstance
  have mlen := PySem.W.mg_none_of X G z_len
  have mlist := PySem.W.mg_none_of X G z_list
  have mrange := PySem.W.mg_none_of X G z_range
  have mMOST_ARCS := PySem.W.mg_of X G y_MOST_ARCS
  have mMOST_IN_PAIRS := PySem.W.mg_of X G y_MOST_IN_PAIRS
  have F_is_length := funD_mk (st := s_is_length) l_is_length i_is_length k_is_length
  have b_is_length := F_is_length.binds (ps := ["bridges"]) (fun _ _ _ _ _ _ us hl => match us, hl with | [_], _ => rfl)
  have F_leads_back := funD_mk (st := s_leads_back) l_leads_back i_leads_back k_leads_back
  have b_leads_back := F_leads_back.binds (ps := ["some", "here"]) (fun _ _ _ _ _ _ us hl => match us, hl with | [_, _], _ => rfl)
  have F_all_lead_back := funD_mk (st := s_all_lead_back) l_all_lead_back i_all_lead_back k_all_lead_back
  have b_all_lead_back := F_all_lead_back.binds (ps := ["some"]) (fun _ _ _ _ _ _ us hl => match us, hl with | [_], _ => rfl)
  have F_none_cross := funD_mk (st := s_none_cross) l_none_cross i_none_cross k_none_cross
  have b_none_cross := F_none_cross.binds (ps := ["some"]) (fun _ _ _ _ _ _ us hl => match us, hl with | [_], _ => rfl)
  have F_is_arcs := funD_mk (st := s_is_arcs) l_is_arcs i_is_arcs k_is_arcs
  have b_is_arcs := F_is_arcs.binds (ps := ["some"]) (fun _ _ _ _ _ _ us hl => match us, hl with | [_], _ => rfl)
  have F_refuse_no_arcs := funD_mk (st := s_refuse_no_arcs) l_refuse_no_arcs i_refuse_no_arcs k_refuse_no_arcs
  have b_refuse_no_arcs := binds_d1 (K := K) (fd := PySem.W.fnOf "refuse_no_arcs" "refuse_no_arcs" (defArgs s_refuse_no_arcs) (defBody s_refuse_no_arcs) (defScope s_refuse_no_arcs) (.ref T_refuse_no_arcs) kV_refuse_no_arcs dc_refuse_no_arcs pm_refuse_no_arcs an_refuse_no_arcs cd_refuse_no_arcs ct_refuse_no_arcs) (x := "some") (y := "called") rfl t_refuse_no_arcs d_refuse_no_arcs (fun u => ⟨_, rfl, rfl⟩)
  have bb_refuse_no_arcs := binds_d2 (K := K) (fd := PySem.W.fnOf "refuse_no_arcs" "refuse_no_arcs" (defArgs s_refuse_no_arcs) (defBody s_refuse_no_arcs) (defScope s_refuse_no_arcs) (.ref T_refuse_no_arcs) kV_refuse_no_arcs dc_refuse_no_arcs pm_refuse_no_arcs an_refuse_no_arcs cd_refuse_no_arcs ct_refuse_no_arcs) (x := "some") (y := "called") rfl t_refuse_no_arcs d_refuse_no_arcs (fun u v => ⟨_, rfl, rfl⟩)
  have F_refuse_no_rows := funD_mk (st := s_refuse_no_rows) l_refuse_no_rows i_refuse_no_rows k_refuse_no_rows
  have b_refuse_no_rows := F_refuse_no_rows.binds (ps := ["one", "other"]) (fun _ _ _ _ _ _ us hl => match us, hl with | [_, _], _ => rfl)
  have F_refuse_unlike := funD_mk (st := s_refuse_unlike) l_refuse_unlike i_refuse_unlike k_refuse_unlike
  have b_refuse_unlike := F_refuse_unlike.binds (ps := ["one", "other"]) (fun _ _ _ _ _ _ us hl => match us, hl with | [_, _], _ => rfl)
  have F_join_bridges := funD_mk (st := s_join_bridges) l_join_bridges i_join_bridges k_join_bridges
  have b_join_bridges := F_join_bridges.binds (ps := ["arcs", "here", "there"]) (fun _ _ _ _ _ _ us hl => match us, hl with | [_, _, _], _ => rfl)
  have F_arcs_of := funD_mk (st := s_arcs_of) l_arcs_of i_arcs_of k_arcs_of
  have b_arcs_of := F_arcs_of.binds (ps := ["word"]) (fun _ _ _ _ _ _ us hl => match us, hl with | [_], _ => rfl)
  have F_refuse_no_number := funD_mk (st := s_refuse_no_number) l_refuse_no_number i_refuse_no_number k_refuse_no_number
  have b_refuse_no_number := F_refuse_no_number.binds (ps := ["number", "least", "most", "called"]) (fun _ _ _ _ _ _ us hl => match us, hl with | [_, _, _, _], _ => rfl)
  have F_refuse_no_size := funD_mk (st := s_refuse_no_size) l_refuse_no_size i_refuse_no_size k_refuse_no_size
  have b_refuse_no_size := F_refuse_no_size.binds (ps := ["size"]) (fun _ _ _ _ _ _ us hl => match us, hl with | [_], _ => rfl)
  have F_all_ways := funD_mk (st := s_all_ways) l_all_ways i_all_ways k_all_ways
  have b_all_ways := F_all_ways.binds (ps := ["size"]) (fun _ _ _ _ _ _ us hl => match us, hl with | [_], _ => rfl)
  have F_ways_with_opening := funD_mk (st := s_ways_with_opening) l_ways_with_opening i_ways_with_opening k_ways_with_opening
  have b_ways_with_opening := F_ways_with_opening.binds (ps := ["ways", "opening", "closing"]) (fun _ _ _ _ _ _ us hl => match us, hl with | [_, _, _], _ => rfl)
  have F_many := funD_mk (st := s_many) l_many i_many k_many
  have b_many := F_many.binds (ps := ["size"]) (fun _ _ _ _ _ _ us hl => match us, hl with | [_], _ => rfl)
  have F_arcs_at := funD_mk (st := s_arcs_at) l_arcs_at i_arcs_at k_arcs_at
  have b_arcs_at := F_arcs_at.binds (ps := ["size", "number"]) (fun _ _ _ _ _ _ us hl => match us, hl with | [_, _], _ => rfl)
  have F_road_from := funD_mk (st := s_road_from) l_road_from i_road_from k_road_from
  have b_road_from := F_road_from.binds (ps := ["first", "above", "below"]) (fun _ _ _ _ _ _ us hl => match us, hl with | [_, _, _], _ => rfl)
  have F_roads := funD_mk (st := s_roads) l_roads i_roads k_roads
  have b_roads := F_roads.binds (ps := ["above", "below"]) (fun _ _ _ _ _ _ us hl => match us, hl with | [_, _], _ => rfl)
  have F_many_roads := funD_mk (st := s_many_roads) l_many_roads i_many_roads k_many_roads
  have b_many_roads := F_many_roads.binds (ps := ["above", "below"]) (fun _ _ _ _ _ _ us hl => match us, hl with | [_, _], _ => rfl)
  have F_rows_with := funD_mk (st := s_rows_with) l_rows_with i_rows_with k_rows_with
  have b_rows_with := F_rows_with.binds (ps := ["size", "roads"]) (fun _ _ _ _ _ _ us hl => match us, hl with | [_, _], _ => rfl)
  have F_law_cell_at := funD_mk (st := s_law_cell_at) l_law_cell_at i_law_cell_at k_law_cell_at
  have b_law_cell_at := F_law_cell_at.binds (ps := ["script", "k"]) (fun _ _ _ _ _ _ us hl => match us, hl with | [_, _], _ => rfl)
  have F_law_whole := funD_mk (st := s_law_whole) l_law_whole i_law_whole k_law_whole
  have b_law_whole := F_law_whole.binds (ps := ["found"]) (fun _ _ _ _ _ _ us hl => match us, hl with | [_], _ => rfl)
  have F_law_roads := funD_mk (st := s_law_roads) l_law_roads i_law_roads k_law_roads
  have b_law_roads := F_law_roads.binds (ps := ["above", "below"]) (fun _ _ _ _ _ _ us hl => match us, hl with | [_, _], _ => rfl)
  have F_law_all := funD_mk (st := s_law_all) l_law_all i_law_all k_law_all
  have b_law_all := F_law_all.binds (ps := ["size"]) (fun _ _ _ _ _ _ us hl => match us, hl with | [_], _ => rfl)
  have F_law := funD_mk (st := s_law) l_law i_law k_law
  refine ⟨PySem.W.fnOf "law" "law" (defArgs s_law) (defBody s_law) (defScope s_law) .none kV_law dc_law pm_law an_law cd_law ct_law, fun s v => .of_eq rfl, fun base _ _ => ?_⟩
  have o_is_length := ok_is_length (P := l.prog) (w := w) (mg := mg) (base := base) F_is_length mMOST_ARCS
  have c_is_length : Fn l.prog w K mg base CX0 "is_length" ["bridges"] [] 1 sp_is_length := ⟨f_is_length, _, _, o_is_length, b_is_length, .nil, k_is_length, PySem.W.mg_of X G a_is_length⟩
  have o_leads_back := ok_leads_back (P := l.prog) (w := w) (mg := mg) (base := base) F_leads_back mlen
  have c_leads_back : Fn l.prog w K mg base CX0 "leads_back" ["some", "here"] [] 1 (sp_leads_back K) := ⟨f_leads_back, _, _, o_leads_back, b_leads_back, .nil, k_leads_back, PySem.W.mg_of X G a_leads_back⟩
  have o_all_lead_back := ok_all_lead_back (P := l.prog) (w := w) (mg := mg) (base := base) F_all_lead_back c_leads_back mlen mrange
  have c_all_lead_back : Fn l.prog w K mg base CX0 "all_lead_back" ["some"] [] 2 (sp_all_lead_back K) := ⟨f_all_lead_back, _, _, o_all_lead_back, b_all_lead_back, .nil, k_all_lead_back, PySem.W.mg_of X G a_all_lead_back⟩
  have o_none_cross := ok_none_cross (P := l.prog) (w := w) (mg := mg) (base := base) F_none_cross menumerate
  have c_none_cross : Fn l.prog w K mg base CX0 "none_cross" ["some"] [] 1 (sp_none_cross K) := ⟨f_none_cross, _, _, o_none_cross, b_none_cross, .nil, k_none_cross, PySem.W.mg_of X G a_none_cross⟩
  have o_is_arcs := ok_is_arcs (P := l.prog) (w := w) (mg := mg) (base := base) F_is_arcs c_is_length c_all_lead_back c_none_cross mlen
  have c_is_arcs : Fn l.prog w K mg base CX0 "is_arcs" ["some"] [] 3 (sp_is_arcs K) := ⟨f_is_arcs, _, _, o_is_arcs, b_is_arcs, .nil, k_is_arcs, PySem.W.mg_of X G a_is_arcs⟩
  have o_refuse_no_arcs := ok_refuse_no_arcs (P := l.prog) (w := w) (mg := mg) (base := base) F_refuse_no_arcs c_is_arcs
  have c_refuse_no_arcs : Fn l.prog w K mg base CX0 "refuse_no_arcs" ["some", "called"] [.str "the list"] 4 (sp_refuse_no_arcs K) := ⟨f_refuse_no_arcs, _, _, o_refuse_no_arcs, b_refuse_no_arcs, .cons ⟨_, rfl⟩ .nil, k_refuse_no_arcs, PySem.W.mg_of X G a_refuse_no_arcs⟩
  have cc_refuse_no_arcs : Fn l.prog w K mg base CX0 "refuse_no_arcs" ["some", "called"] [] 4 (sp_refuse_no_arcs K) := ⟨f_refuse_no_arcs, _, _, o_refuse_no_arcs, bb_refuse_no_arcs, .nil, k_refuse_no_arcs, PySem.W.mg_of X G a_refuse_no_arcs⟩
  have o_refuse_no_rows := ok_refuse_no_rows (P := l.prog) (w := w) (mg := mg) (base := base) F_refuse_no_rows cc_refuse_no_arcs
  have c_refuse_no_rows : Fn l.prog w K mg base CX0 "refuse_no_rows" ["one", "other"] [] 5 (sp_refuse_no_rows K) := ⟨f_refuse_no_rows, _, _, o_refuse_no_rows, b_refuse_no_rows, .nil, k_refuse_no_rows, PySem.W.mg_of X G a_refuse_no_rows⟩
  have o_refuse_unlike := ok_refuse_unlike (P := l.prog) (w := w) (mg := mg) (base := base) F_refuse_unlike c_refuse_no_rows mlen
  have c_refuse_unlike : Fn l.prog w K mg base CX0 "refuse_unlike" ["one", "other"] [] 6 (sp_refuse_unlike K) := ⟨f_refuse_unlike, _, _, o_refuse_unlike, b_refuse_unlike, .nil, k_refuse_unlike, PySem.W.mg_of X G a_refuse_unlike⟩
  have o_join_bridges := ok_join_bridges (P := l.prog) (w := w) (mg := mg) (base := base) F_join_bridges 
  have c_join_bridges : Fn l.prog w K mg base CX0 "join_bridges" ["arcs", "here", "there"] [] 1 sp_join_bridges := ⟨f_join_bridges, _, _, o_join_bridges, b_join_bridges, .nil, k_join_bridges, PySem.W.mg_of X G a_join_bridges⟩
  have o_arcs_of := ok_arcs_of (P := l.prog) (w := w) (mg := mg) (base := base) F_arcs_of c_is_length c_join_bridges mlen menumerate
  have c_arcs_of : Fn l.prog w K mg base CX0 "arcs_of" ["word"] [] 2 sp_arcs_of := ⟨f_arcs_of, _, _, o_arcs_of, b_arcs_of, .nil, k_arcs_of, PySem.W.mg_of X G a_arcs_of⟩
  have o_refuse_no_number := ok_refuse_no_number (P := l.prog) (w := w) (mg := mg) (base := base) F_refuse_no_number 
  have c_refuse_no_number : Fn l.prog w K mg base CX0 "refuse_no_number" ["number", "least", "most", "called"] [] 1 sp_refuse_no_number := ⟨f_refuse_no_number, _, _, o_refuse_no_number, b_refuse_no_number, .nil, k_refuse_no_number, PySem.W.mg_of X G a_refuse_no_number⟩
  have o_refuse_no_size := ok_refuse_no_size (P := l.prog) (w := w) (mg := mg) (base := base) F_refuse_no_size c_refuse_no_number mMOST_ARCS
  have c_refuse_no_size : Fn l.prog w K mg base CX0 "refuse_no_size" ["size"] [] 2 sp_refuse_no_size := ⟨f_refuse_no_size, _, _, o_refuse_no_size, b_refuse_no_size, .nil, k_refuse_no_size, PySem.W.mg_of X G a_refuse_no_size⟩
  have o_all_ways := ok_all_ways (P := l.prog) (w := w) (mg := mg) (base := base) F_all_ways mrange
  have c_all_ways : Fn l.prog w K mg base CX0 "all_ways" ["size"] [] 1 sp_all_ways := ⟨f_all_ways, _, _, o_all_ways, b_all_ways, .nil, k_all_ways, PySem.W.mg_of X G a_all_ways⟩
  have o_ways_with_opening := ok_ways_with_opening (P := l.prog) (w := w) (mg := mg) (base := base) F_ways_with_opening 
  have c_ways_with_opening : Fn l.prog w K mg base CX0 "ways_with_opening" ["ways", "opening", "closing"] [] 1 sp_ways_with_opening := ⟨f_ways_with_opening, _, _, o_ways_with_opening, b_ways_with_opening, .nil, k_ways_with_opening, PySem.W.mg_of X G a_ways_with_opening⟩
  have o_many := ok_many (P := l.prog) (w := w) (mg := mg) (base := base) F_many c_refuse_no_size c_all_ways
  have c_many : Fn l.prog w K mg base CX0 "many" ["size"] [] 3 sp_many := ⟨f_many, _, _, o_many, b_many, .nil, k_many, PySem.W.mg_of X G a_many⟩
  have o_arcs_at := ok_arcs_at (P := l.prog) (w := w) (mg := mg) (base := base) F_arcs_at c_refuse_no_number c_many c_all_ways c_ways_with_opening c_arcs_of
  have c_arcs_at : Fn l.prog w K mg base CX0 "arcs_at" ["size", "number"] [] 4 sp_arcs_at := ⟨f_arcs_at, _, _, o_arcs_at, b_arcs_at, .nil, k_arcs_at, PySem.W.mg_of X G a_arcs_at⟩
  have o_road_from := ok_road_from (P := l.prog) (w := w) (mg := mg) (base := base) F_road_from 
  have c_road_from : Fn l.prog w K mg base CX0 "road_from" ["first", "above", "below"] [] 1 (sp_road_from K) := ⟨f_road_from, _, _, o_road_from, b_road_from, .nil, k_road_from, PySem.W.mg_of X G a_road_from⟩
  have o_roads := ok_roads (P := l.prog) (w := w) (mg := mg) (base := base) F_roads c_refuse_unlike c_road_from mlen mrange
  have c_roads : Fn l.prog w K mg base CX0 "roads" ["above", "below"] [] 7 (sp_roads K) := ⟨f_roads, _, _, o_roads, b_roads, .nil, k_roads, PySem.W.mg_of X G a_roads⟩
  have o_many_roads := ok_many_roads (P := l.prog) (w := w) (mg := mg) (base := base) F_many_roads c_roads mlen
  have c_many_roads : Fn l.prog w K mg base CX0 "many_roads" ["above", "below"] [] 8 (sp_many_roads K) := ⟨f_many_roads, _, _, o_many_roads, b_many_roads, .nil, k_many_roads, PySem.W.mg_of X G a_many_roads⟩
  have o_rows_with := ok_rows_with (P := l.prog) (w := w) (mg := mg) (base := base) F_rows_with c_refuse_no_number c_many c_arcs_at c_many_roads mrange mMOST_IN_PAIRS
  have c_rows_with : Fn l.prog w K mg base CX0 "rows_with" ["size", "roads"] [] 9 sp_rows_with := ⟨f_rows_with, _, _, o_rows_with, b_rows_with, .nil, k_rows_with, PySem.W.mg_of X G a_rows_with⟩
  have o_law_cell_at := ok_law_cell_at (P := l.prog) (w := w) (mg := mg) (base := base) F_law_cell_at mlen
  have c_law_cell_at : Fn l.prog w K mg base CX0 "_law_cell_at" ["script", "k"] [] 1 (sp_law_cell_at K) := ⟨f_law_cell_at, _, _, o_law_cell_at, b_law_cell_at, .nil, k_law_cell_at, PySem.W.mg_of X G a_law_cell_at⟩
  have o_law_whole := ok_law_whole (P := l.prog) (w := w) (mg := mg) (base := base) F_law_whole kib misinstance mint mbool
  have c_law_whole : Fn l.prog w K mg base CX0 "_law_whole" ["found"] [] 1 sp_law_whole := ⟨f_law_whole, _, _, o_law_whole, b_law_whole, .nil, k_law_whole, PySem.W.mg_of X G a_law_whole⟩
  have o_law_roads := ok_law_roads (P := l.prog) (w := w) (mg := mg) (base := base) F_law_roads mlen mrange mlist
  have c_law_roads : Fn l.prog w K mg base CX0 "_law_roads" ["above", "below"] [] 1 (sp_law_roads K) := ⟨f_law_roads, _, _, o_law_roads, b_law_roads, .nil, k_law_roads, PySem.W.mg_of X G a_law_roads⟩
  have o_law_all := ok_law_all (P := l.prog) (w := w) (mg := mg) (base := base) F_law_all mlen mrange
  have c_law_all : Fn l.prog w K mg base CX0 "_law_all" ["size"] [] 1 sp_law_all := ⟨f_law_all, _, _, o_law_all, b_law_all, .nil, k_law_all, PySem.W.mg_of X G a_law_all⟩
  exact ok_law F_law c_law_cell_at c_law_all c_law_roads c_rows_with c_law_whole mlen
theorem walk {l : PySem.W.OpenLaw} {q : Program} {loose : List Str} {XP : (Str → Option Value) → Heap → Prop} {YP : World → Heap → Prop} {d : DefRec} {K : Params → PySem.W.Frag} (hn : l.most = some 63) (hdf : d.params.defaults = [])
    (hY : ∀ (w : World) (h : Heap), YP w h → (K w.params).In h)
    (F : ∀ (w : World) (mg : Str → Option Value) (fa : Addr) (h : Heap), (K w.params).In h → h.Ns mainGlobals mg → mg d.name = some (.ref fa) →
      ∃ fd : FuncData, (∀ (s : Shared) (u : Value), BindsTo s fd ⟨[u], []⟩ [("script", u)]) ∧ ∀ base : Heap, (K w.params).In base → base.Ns mainGlobals mg → FnOk l.prog w (K w.params) mg base CX0 10 fa fd ["script"] (sp_law (K w.params))) :
    PySem.W.WalkO q loose XP YP l.row.toRowW d [] (fun f vs => PySem.call f vs) :=
  L2.walk_of (n := 63) (k := 10) (x := "script") (CX := fun _ => CX0) (sp := fun w => sp_law (K w.params)) hn (by decide) hdf ⟨rfl, by decide, by decide⟩ hY F (fun _ _ a ns hl _ hS => ⟨a, ns, rfl, hS, hl, fun _ => rfl⟩) fun _ _ _ _ _ z => z
end Rl
open PySem PySem.W PyProof.Rows
set_option maxRecDepth 100000 in
set_option maxHeartbeats 0 in
theorem PySem.Challenge.cw_riverloops_k09_how_many_rows_holds : PySem.Challenge.rw_riverloops_k09_how_many_rows.Holds := by
  w_on; o_law; k_head; (case hw => w_witness2)
  k_fill
  refine Rl.walk (l := PySem.Challenge.rw_riverloops_k09_how_many_rows) rfl rfl (fun w h Y => PySem.W.kIn_of Y) ?F
  case F =>
    intro w mg fa h KX G hmg
    refine' Rl.all_mk KX G hmg ?a_is_length ?l_is_length ?i_is_length ?k_is_length ?a_leads_back ?l_leads_back ?i_leads_back ?k_leads_back ?a_all_lead_back ?l_all_lead_back ?i_all_lead_back ?k_all_lead_back ?a_none_cross ?l_none_cross ?i_none_cross ?k_none_cross ?a_is_arcs ?l_is_arcs ?i_is_arcs ?k_is_arcs ?a_refuse_no_arcs ?l_refuse_no_arcs ?i_refuse_no_arcs ?k_refuse_no_arcs ?t_refuse_no_arcs ?d_refuse_no_arcs ?a_refuse_no_rows ?l_refuse_no_rows ?i_refuse_no_rows ?k_refuse_no_rows ?a_refuse_unlike ?l_refuse_unlike ?i_refuse_unlike ?k_refuse_unlike ?a_join_bridges ?l_join_bridges ?i_join_bridges ?k_join_bridges ?a_arcs_of ?l_arcs_of ?i_arcs_of ?k_arcs_of ?a_refuse_no_number ?l_refuse_no_number ?i_refuse_no_number ?k_refuse_no_number ?a_refuse_no_size ?l_refuse_no_size ?i_refuse_no_size ?k_refuse_no_size ?a_all_ways ?l_all_ways ?i_all_ways ?k_all_ways ?a_ways_with_opening ?l_ways_with_opening ?i_ways_with_opening ?k_ways_with_opening ?a_many ?l_many ?i_many ?k_many ?a_arcs_at ?l_arcs_at ?i_arcs_at ?k_arcs_at ?a_road_from ?l_road_from ?i_road_from ?k_road_from ?a_roads ?l_roads ?i_roads ?k_roads ?a_many_roads ?l_many_roads ?i_many_roads ?k_many_roads ?a_rows_with ?l_rows_with ?i_rows_with ?k_rows_with ?a_law_cell_at ?l_law_cell_at ?i_law_cell_at ?k_law_cell_at ?a_law_whole ?l_law_whole ?i_law_whole ?k_law_whole ?a_law_roads ?l_law_roads ?i_law_roads ?k_law_roads ?a_law_all ?l_law_all ?i_law_all ?k_law_all ?a_law ?l_law ?i_law ?k_law ?z_bool ?z_enumerate ?z_int ?z_isinstance ?z_len ?z_list ?z_range ?y_MOST_ARCS ?y_MOST_IN_PAIRS ?kib
    (case a_is_length => first | k_is | rfl)
    (case l_is_length => first | k_is | rfl)
    (case i_is_length => first | k_is | rfl)
    (case k_is_length => first | k_is | rfl)
    (case a_leads_back => first | k_is | rfl)
    (case l_leads_back => first | k_is | rfl)
    (case i_leads_back => first | k_is | rfl)
    (case k_leads_back => first | k_is | rfl)
    (case a_all_lead_back => first | k_is | rfl)
    (case l_all_lead_back => first | k_is | rfl)
    (case i_all_lead_back => first | k_is | rfl)
    (case k_all_lead_back => first | k_is | rfl)
    (case a_none_cross => first | k_is | rfl)
    (case l_none_cross => first | k_is | rfl)
    (case i_none_cross => first | k_is | rfl)
    (case k_none_cross => first | k_is | rfl)
    (case a_is_arcs => first | k_is | rfl)
    (case l_is_arcs => first | k_is | rfl)
    (case i_is_arcs => first | k_is | rfl)
    (case k_is_arcs => first | k_is | rfl)
    (case a_refuse_no_arcs => first | k_is | rfl)
    (case l_refuse_no_arcs => first | k_is | rfl)
    (case i_refuse_no_arcs => first | k_is | rfl)
    (case k_refuse_no_arcs => first | k_is | rfl)
    (case t_refuse_no_arcs => first | k_is | rfl)
    (case d_refuse_no_arcs => first | k_is | rfl)
    (case a_refuse_no_rows => first | k_is | rfl)
    (case l_refuse_no_rows => first | k_is | rfl)
    (case i_refuse_no_rows => first | k_is | rfl)
    (case k_refuse_no_rows => first | k_is | rfl)
    (case a_refuse_unlike => first | k_is | rfl)
    (case l_refuse_unlike => first | k_is | rfl)
    (case i_refuse_unlike => first | k_is | rfl)
    (case k_refuse_unlike => first | k_is | rfl)
    (case a_join_bridges => first | k_is | rfl)
    (case l_join_bridges => first | k_is | rfl)
    (case i_join_bridges => first | k_is | rfl)
    (case k_join_bridges => first | k_is | rfl)
    (case a_arcs_of => first | k_is | rfl)
    (case l_arcs_of => first | k_is | rfl)
    (case i_arcs_of => first | k_is | rfl)
    (case k_arcs_of => first | k_is | rfl)
    (case a_refuse_no_number => first | k_is | rfl)
    (case l_refuse_no_number => first | k_is | rfl)
    (case i_refuse_no_number => first | k_is | rfl)
    (case k_refuse_no_number => first | k_is | rfl)
    (case a_refuse_no_size => first | k_is | rfl)
    (case l_refuse_no_size => first | k_is | rfl)
    (case i_refuse_no_size => first | k_is | rfl)
    (case k_refuse_no_size => first | k_is | rfl)
    (case a_all_ways => first | k_is | rfl)
    (case l_all_ways => first | k_is | rfl)
    (case i_all_ways => first | k_is | rfl)
    (case k_all_ways => first | k_is | rfl)
    (case a_ways_with_opening => first | k_is | rfl)
    (case l_ways_with_opening => first | k_is | rfl)
    (case i_ways_with_opening => first | k_is | rfl)
    (case k_ways_with_opening => first | k_is | rfl)
    (case a_many => first | k_is | rfl)
    (case l_many => first | k_is | rfl)
    (case i_many => first | k_is | rfl)
    (case k_many => first | k_is | rfl)
    (case a_arcs_at => first | k_is | rfl)
    (case l_arcs_at => first | k_is | rfl)
    (case i_arcs_at => first | k_is | rfl)
    (case k_arcs_at => first | k_is | rfl)
    (case a_road_from => first | k_is | rfl)
    (case l_road_from => first | k_is | rfl)
    (case i_road_from => first | k_is | rfl)
    (case k_road_from => first | k_is | rfl)
    (case a_roads => first | k_is | rfl)
    (case l_roads => first | k_is | rfl)
    (case i_roads => first | k_is | rfl)
    (case k_roads => first | k_is | rfl)
    (case a_many_roads => first | k_is | rfl)
    (case l_many_roads => first | k_is | rfl)
    (case i_many_roads => first | k_is | rfl)
    (case k_many_roads => first | k_is | rfl)
    (case a_rows_with => first | k_is | rfl)
    (case l_rows_with => first | k_is | rfl)
    (case i_rows_with => first | k_is | rfl)
    (case k_rows_with => first | k_is | rfl)
    (case a_law_cell_at => first | k_is | rfl)
    (case l_law_cell_at => first | k_is | rfl)
    (case i_law_cell_at => first | k_is | rfl)
    (case k_law_cell_at => first | k_is | rfl)
    (case a_law_whole => first | k_is | rfl)
    (case l_law_whole => first | k_is | rfl)
    (case i_law_whole => first | k_is | rfl)
    (case k_law_whole => first | k_is | rfl)
    (case a_law_roads => first | k_is | rfl)
    (case l_law_roads => first | k_is | rfl)
    (case i_law_roads => first | k_is | rfl)
    (case k_law_roads => first | k_is | rfl)
    (case a_law_all => first | k_is | rfl)
    (case l_law_all => first | k_is | rfl)
    (case i_law_all => first | k_is | rfl)
    (case k_law_all => first | k_is | rfl)
    (case a_law => first | k_is | rfl)
    (case l_law => first | k_is | rfl)
    (case i_law => first | k_is | rfl)
    (case k_law => first | k_is | rfl)
    (case z_bool => first | k_is | rfl)
    (case z_enumerate => first | k_is | rfl)
    (case z_int => first | k_is | rfl)
    (case z_isinstance => first | k_is | rfl)
    (case z_len => first | k_is | rfl)
    (case z_list => first | k_is | rfl)
    (case z_range => first | k_is | rfl)
    (case y_MOST_ARCS => first | k_is | rfl)
    (case y_MOST_IN_PAIRS => first | k_is | rfl)
    (case kib => first | k_is | rfl)
