import PyProof.Rows.All
import Wide.All
import OpenK.AllK
import Wide.FinOn
import Lean
import PyProof.EqAt
import PyProof.EqKinds
import PyProof.TupleCall
import PyProof.NeKinds
import KE.KTryMore
import PyProof.ExcArgsOwn
import PyProof.ExcBaseAll.ValueError
import PyProof.ExcClass2
import OpenK.KOwn
import OpenK.KRaise
import PyProof.Rows.FStr
import PyProof.Rows.RegStrFacts
import PyProof.NsDelKeeps
import PyProof.RulesAs
import PyProof.Rows.Catch
import PyProof.StrBlockH
import PyProof.Rows.StrMul
import PyProof.Rows.StrJoinRep
import PyProof.AutoSeq1
import KE.KFind
import PyProof.ListRange
import PySem.Challenge.RW_riverloops_k14_each_refusal_its_own
set_option Elab.async false
set_option linter.all false
set_option maxRecDepth 100000
/-! THE HAND LAYER, for ints, bools, texts, own classes, LISTS and tuples (index, slices, in, append, pop ..), calls, loops. Paste it whole ahead of your own text; what your proof does not reach may be deleted. -/
namespace L2
open PySem PySem.Spec PyProof.Rows

/-- a key: an int or a str -/
abbrev Key := Sum Int Str
def keyIs : Key → Value → Bool
  | .inl k, v => Value.isInt k v
  | .inr x, v => Value.isStrOf x v
def keyH (w : World) : Key → Int
  | .inl k => hashInt k
  | .inr x => hashStr w x
theorem keyIs_shape : ∀ {k : Key} {v : Value}, keyIs k v = true → (∃ i t, k = Sum.inl i ∧ v = Value.int i t) ∨ (∃ x t, k = Sum.inr x ∧ v = Value.str x t)
  | .inl i, v, h => by
    obtain ⟨t, e⟩ := Value.isInt_shape (k := i) (v := v) h
    exact .inl ⟨i, t, rfl, e⟩
  | .inr x, v, h => by
    obtain ⟨t, e⟩ := Value.isStrOf_shape (x := x) (v := v) h
    exact .inr ⟨x, t, rfl, e⟩
theorem key_ll (a b : Int) : decide ((Sum.inl a : Key) = Sum.inl b) = (a == b) := by
  by_cases e : a = b
  · subst e; simp
  · have h : ¬ (Sum.inl a : Key) = Sum.inl b := fun q => e (Sum.inl.inj q)
    rw [decide_eq_false h]
    exact (beq_eq_false_iff_ne.mpr e).symm
theorem key_rr (a b : Str) : decide ((Sum.inr a : Key) = Sum.inr b) = decide (a = b) := by
  by_cases e : a = b
  · subst e; simp
  · have h : ¬ (Sum.inr a : Key) = Sum.inr b := fun q => e (Sum.inr.inj q)
    rw [decide_eq_false h, decide_eq_false e]
theorem key_lr (a : Int) (b : Str) : decide ((Sum.inl a : Key) = Sum.inr b) = false := decide_eq_false (fun q => nomatch q)
theorem key_rl (a : Str) (b : Int) : decide ((Sum.inr a : Key) = Sum.inl b) = false := decide_eq_false (fun q => nomatch q)

def mixKind (prog : Program) (w : World) : PySem.KeyKind prog w Key where
  is := keyIs
  hash := keyH w
  inj := fun v a b ha hb => by
    rcases keyIs_shape ha with ⟨i, t, rfl, rfl⟩ | ⟨x, t, rfl, rfl⟩
    · rcases keyIs_shape hb with ⟨j, u, rfl, e⟩ | ⟨y, u, rfl, e⟩
      · injection e with e1 _; rw [e1]
      · exact nomatch e
    · rcases keyIs_shape hb with ⟨j, u, rfl, e⟩ | ⟨y, u, rfl, e⟩
      · exact nomatch e
      · injection e with e1 _; rw [e1]
  byValue := fun k v h => by
    rcases keyIs_shape h with ⟨i, t, rfl, rfl⟩ | ⟨x, t, rfl, rfl⟩ <;> rfl
  pyHash := fun hv h => by
    rcases keyIs_shape hv with ⟨i, t, rfl, rfl⟩ | ⟨x, t, rfl, rfl⟩
    · exact wpAny_pyHash_int h
    · exact wpAny_pyHash_str h
  eqBool := fun hu hv h => by
    rcases keyIs_shape hu with ⟨i, t, rfl, rfl⟩ | ⟨x, t, rfl, rfl⟩
    · rcases keyIs_shape hv with ⟨j, u, rfl, rfl⟩ | ⟨y, u, rfl, rfl⟩
      · rw [key_ll] at h; exact wpAny_eqBool_int h
      · rw [key_lr] at h; exact SeqAt.EqAt.int_str i t y u _ _ _ _ h
    · rcases keyIs_shape hv with ⟨j, u, rfl, rfl⟩ | ⟨y, u, rfl, rfl⟩
      · rw [key_rl] at h; exact SeqAt.EqAt.str_int x t j u _ _ _ _ h
      · rw [key_rr] at h; exact wpAny_eqBool_str h
  «strs» := fun k x t v h => by
    rcases keyIs_shape h with ⟨i, u, rfl, e⟩ | ⟨y, u, rfl, e⟩
    · exact nomatch e
    · injection e with e1 _
      subst e1
      cases v <;> rfl

end L2

namespace L2
open PySem PySem.Spec PyProof.Rows

/-- a value, without the heap -/
inductive V where
  | non | bl (b : Bool) | int (i : Int) | str (x : Str) | byt (b : Array UInt8) | flt (b : UInt64) | ref (a : Addr) | ty (n : String)
  deriving DecidableEq

def RelV : V → Value → Prop
  | .non, u => u = Value.none
  | .bl b, u => u = Value.bool b
  | .int i, u => ∃ t, u = Value.int i t
  | .str x, u => ∃ t, u = Value.str x t
  | .byt b, u => ∃ t, u = Value.bytes b t
  | .flt b, u => ∃ t, u = Value.float b t
  | .ref a, u => u = Value.ref a
  | .ty n, u => u = Value.type n

abbrev Vals : List V → List Value → Prop := Paired RelV
theorem Vals.length {xs : List V} {us : List Value} (r : Vals xs us) : xs.length = us.length := Paired.length r
theorem Vals.get : ∀ {xs : List V} {us : List Value} {i : Nat} {x : V}, Vals xs us → xs[i]? = some x → ∃ u, us[i]? = some u ∧ RelV x u
  | _, _, _, _, .nil, e => by simp at e
  | _, _, 0, _, .cons r _, e => by simp at e; subst e; exact ⟨_, rfl, r⟩
  | _, _, i + 1, x, .cons _ t, e => by
    obtain ⟨u, h1, h2⟩ := Vals.get (i := i) (x := x) t (by simpa using e)
    exact ⟨u, by simpa using h1, h2⟩
theorem Vals.set {x : V} {u : Value} (r : RelV x u) : ∀ {xs : List V} {us : List Value} (i : Nat), Vals xs us → Vals (xs.set i x) (us.set i u)
  | _, _, _, .nil => .nil
  | _, _, 0, .cons _ t => .cons r t
  | _, _, i + 1, .cons q t => .cons q (Vals.set r i t)
theorem Vals.append : ∀ {xs ys : List V} {us ws : List Value}, Vals xs us → Vals ys ws → Vals (xs ++ ys) (us ++ ws)
  | _, _, _, _, .nil, s => s
  | _, _, _, _, .cons r t, s => .cons r (Vals.append t s)

def RelO : Option V → Option Value → Prop
  | some v, some u => RelV v u
  | none, none => True
  | _, _ => False
def KV {κ : Type} : List (κ × V) → List (κ × Value) → Prop := Paired fun (p : κ × V) (q : κ × Value) => p.1 = q.1 ∧ RelV p.2 q.2

/-- a key of a dict (00_mix): an int or a text -/
def kV : Key → V
  | .inl i => .int i
  | .inr x => .str x

/-- what stands at a tracked address -/
inductive HO where
  /-- a list -/
  | lst (xs : List V)
  /-- a tuple (never changes) -/
  | tup (xs : List V)
  /-- a dict whose keys are ints and texts; one whose keys are tuples of ints and texts (the empty one is both) -/
  | dK (kvs : List (Key × V)) | dT (kvs : List (List Key × V))
  /-- a set of ints: its members, its size -/
  | set (S : Int → Bool) (n : Nat)
  /-- an instance of the class at C, its dict at dx, its attributes -/
  | ins (C dx : Addr) (fs : List (Str × V))
  /-- the dict of the instance at x -/
  | own (x : Addr)
  /-- the dict of an exception -/
  | xd (fs : List (Str × V))
  /-- a bound method, f of x -/
  | met (f x : Addr)
  /-- a range object lo, lo + 1, .. below hi -/
  | rng (lo hi : Int)
  /-- a thing that is known to the object (the script; a dict while a loop walks it): read, never written while it is so -/
  | frz (o : Obj) (u : HO)
  /-- a code object's table -/
  | tbl (ps : Array Value)
  /-- any other thing, by what is true of its one object (a def of one's own: SetO a S n := HO.ext fun h => ..) -/
  | ext (φ : Heap → Prop)

abbrev Hp := Addr → Option HO
def upd (H : Hp) (a : Addr) (o : HO) : Hp := fun b => if b = a then some o else H b
theorem upd_same {H : Hp} {a : Addr} {o : HO} : upd H a o a = some o := by unfold upd; rw [if_pos rfl]
theorem upd_ne {H : Hp} {a b : Addr} {o : HO} (h : b ≠ a) : upd H a o b = H b := by unfold upd; rw [if_neg h]
theorem ne_of_none {H : Hp} {a b : Addr} {o : HO} (h : H a = some o) (h' : H b = none) : a ≠ b := by
  intro e; subst e; rw [h] at h'; cases h'

section
variable (P : Program) (w : World)
def ObjOk (H : Hp) (h : Heap) (a : Addr) : HO → Prop
  | .lst xs => xs.length ≤ sizeLine ∧ ∃ (its : List Value) (n : Nat), Vals xs its ∧ h.get? a = some { cls := .type "list", data := .seq its.toArray n }
  | .tup xs => xs.length ≤ sizeLine ∧ ∃ its : List Value, Vals xs its ∧ IsTup h a its.toArray
  | .dK kvs => kvs.length ≤ sizeLine ∧ (a == sysModules) = false ∧ ∃ vs, KV kvs vs ∧ h.DictOf (mixKind P w) a vs
  | .dT kvs => kvs.length ≤ sizeLine ∧ (a == sysModules) = false ∧ ∃ xs : List (List Key × Addr × Value),
      Paired (fun (p : List Key × V) (q : List Key × Addr × Value) => p.1 = q.1 ∧ H q.2.1 = some (.tup (p.1.map kV)) ∧ RelV p.2 q.2.2) kvs xs ∧
      ∃ o es ep, h.get? a = some o ∧ o.ExactDict ∧ o.data = .dict es ep ∧ es.toList = xs.map (entryOfKey (tupleKind (mixKind P w))) ∧ (xs.map (·.1)).Nodup
  | .set S n => h.SetOf (intKind P w) a S n
  | .ins C dx fs => H dx = some (.own a) ∧ fs.length ≤ 1000 ∧ dx ≠ a ∧ h.get? a = some (PySem.W.instObj C dx) ∧
      ∃ mA, h.Ns1 dx mA ∧ (∀ f, RelO (fs.lookup f) (mA f)) ∧ PySem.Within mA (fs.map (·.1))
  | .own _ => ∃ o, h.get? a = some o
  | .xd fs => ∃ mA, h.Ns1 a mA ∧ ∀ f, RelO (fs.lookup f) (mA f)
  | .rng lo hi => ∃ t u v, h.get? a = some { cls := .type "range", data := .fields #[.int lo t, .int hi u, .int 1 v] }
  | .frz o u => h.get? a = some o ∧ ObjOk H h a u
  | .tbl ps => h.get? a = some { cls := .none, data := .fields ps }
  | .met f x => h.get? a = some (PySem.W.methodObj (.ref f) (.ref x))
  | .ext φ => φ h ∧ (∃ o, h.get? a = some o) ∧ ∀ h1 h2 : Heap, φ h1 → (∀ o, h1.get? a = some o → h2.get? a = some o) → φ h2
/-- the abstract heap is held -/
def HOk (H : Hp) (h : Heap) : Prop := ∀ a o, H a = some o → ObjOk P w H h a o
end

section
variable {P : Program} {w : World} {H H' : Hp} {h h' : Heap} {a : Addr} {o : HO}
theorem ObjOk.lt (x : ObjOk P w H h a o) : a < h.objs.size := by
  cases o with
  | lst xs => obtain ⟨_, _, _, _, e⟩ := x; exact Heap.lt_size e
  | tup xs => obtain ⟨_, _, _, p⟩ := x; exact p.lt
  | dK kvs => obtain ⟨_, _, _, _, o, _, _, e, _⟩ := x; exact Heap.lt_size e
  | dT kvs => obtain ⟨_, _, _, _, o, _, _, e, _⟩ := x; exact Heap.lt_size e
  | set S n => obtain ⟨o, _, _, _, e, _⟩ := x; exact Heap.lt_size e
  | ins C dx fs => obtain ⟨_, _, _, e, _⟩ := x; exact Heap.lt_size e
  | own y => obtain ⟨_, e⟩ := x; exact Heap.lt_size e
  | xd fs => obtain ⟨_, ⟨_, _, _, e, _⟩, _⟩ := x; exact Heap.lt_size e
  | rng lo hi => obtain ⟨_, _, _, e⟩ := x; exact Heap.lt_size e
  | frz ob u => obtain ⟨e, _⟩ := x; exact Heap.lt_size e
  | tbl ps => exact Heap.lt_size (show h.get? a = some _ from x)
  | met f y => exact Heap.lt_size (show h.get? a = some _ from x)
  | ext φ => obtain ⟨_, ⟨_, e⟩, _⟩ := x; exact Heap.lt_size e
theorem Paired.mapP {α β : Type} {F G : α → β → Prop} : ∀ {l₁ : List α} {l₂ : List β}, Paired F l₁ l₂ → (∀ a b, F a b → G a b) → Paired G l₁ l₂
  | _, _, .nil, _ => .nil
  | _, _, .cons r t, f => .cons (f _ _ r) (Paired.mapP t f)
/-- what an object's description leans on: its own object, its own dict, the tuples -/
theorem ObjOk.stay (x : ObjOk P w H h a o) (k : ∀ b u, (b = a ∨ H b = some (.own a)) → h.get? b = some u → h'.get? b = some u)
    (ho : ∀ b, H b = some (.own a) → H' b = some (.own a)) (ht : ∀ b xs, H b = some (.tup xs) → H' b = some (.tup xs)) : ObjOk P w H' h' a o := by
  induction o with
  | lst xs => obtain ⟨z, its, n, r, e⟩ := x; exact ⟨z, its, n, r, k _ _ (.inl rfl) e⟩
  | tup xs => obtain ⟨z, its, r, ob, e, c⟩ := x; exact ⟨z, its, r, ob, k _ _ (.inl rfl) e, c⟩
  | dK kvs => obtain ⟨z, y, vs, r, ob, es, ep, e, c⟩ := x; exact ⟨z, y, vs, r, ob, es, ep, k _ _ (.inl rfl) e, c⟩
  | dT kvs =>
    obtain ⟨z, y, xs, r, ob, es, ep, e, c⟩ := x
    exact ⟨z, y, xs, Paired.mapP r fun p q z => ⟨z.1, ht _ _ z.2.1, z.2.2⟩, ob, es, ep, k _ _ (.inl rfl) e, c⟩
  | set S n => obtain ⟨ob, es, ep, t, e, c⟩ := x; exact ⟨ob, es, ep, t, k _ _ (.inl rfl) e, c⟩
  | ins C dx fs =>
    obtain ⟨d, z, ne, e, mA, ⟨od, es, ep, e2, c⟩, r⟩ := x
    exact ⟨ho _ d, z, ne, k _ _ (.inl rfl) e, mA, ⟨od, es, ep, k _ _ (.inr d) e2, c⟩, r⟩
  | own y => obtain ⟨ob, e⟩ := x; exact ⟨ob, k _ _ (.inl rfl) e⟩
  | xd fs => obtain ⟨mA, ⟨od, es, ep, e, c⟩, r⟩ := x; exact ⟨mA, ⟨od, es, ep, k _ _ (.inl rfl) e, c⟩, r⟩
  | rng lo hi => obtain ⟨t, u, v, e⟩ := x; exact ⟨t, u, v, k _ _ (.inl rfl) e⟩
  | frz ob u ih => obtain ⟨e, q⟩ := x; exact ⟨k _ _ (.inl rfl) e, ih q⟩
  | tbl ps =>
    have e : h.get? a = some { cls := .none, data := .fields ps } := x
    show h'.get? a = some { cls := .none, data := .fields ps }
    exact k a _ (.inl rfl) e
  | met f y =>
    have e : h.get? a = some (PySem.W.methodObj (.ref f) (.ref y)) := x
    show h'.get? a = some (PySem.W.methodObj (.ref f) (.ref y))
    exact k a _ (.inl rfl) e
  | ext φ => obtain ⟨p, ⟨o, e⟩, st⟩ := x; exact ⟨st _ _ p fun o q => k _ _ (.inl rfl) q, ⟨o, k _ _ (.inl rfl) e⟩, st⟩
theorem HOk.lt (x : HOk P w H h) (e : H a = some o) : a < h.objs.size := (x a o e).lt
theorem HOk.fresh (x : HOk P w H h) (e : h.objs.size ≤ a) : H a = none := by
  cases q : H a with
  | none => rfl
  | some u => exact absurd (Nat.lt_of_lt_of_le (x.lt q) e) (Nat.lt_irrefl _)
/-- every object of the heap is kept -/
theorem HOk.kept (x : HOk P w H h) (k : ∀ b u, h.get? b = some u → h'.get? b = some u) : HOk P w H h' := fun a o e =>
  (x a o e).stay (fun b u _ q => k b u q) (fun _ q => q) fun _ _ q => q
/-- a new object is laid and tracked -/
theorem HOk.laid (x : HOk P w H h) (k : ∀ b u, h.get? b = some u → h'.get? b = some u) (hp : h.objs.size ≤ a) (new : ObjOk P w (upd H a o) h' a o) : HOk P w (upd H a o) h' := fun b u e => by
  have hn := x.fresh hp
  by_cases hb : b = a
  · subst hb; rw [upd_same] at e; cases e; exact new
  · rw [upd_ne hb] at e
    exact (x b u e).stay (fun c v _ q => k c v q) (fun c q => by rw [upd_ne (ne_of_none q hn)]; exact q) fun c xs q => by rw [upd_ne (ne_of_none q hn)]; exact q
end

/-- what may be read as u: it is u, or a known u -/
def Rd (H : Hp) (a : Addr) (u : HO) : Prop := H a = some u ∨ ∃ o, H a = some (.frz o u)
theorem Rd.ok {P : Program} {w : World} {H : Hp} {h : Heap} {a : Addr} {u : HO} (r : Rd H a u) (x : HOk P w H h) : ObjOk P w H h a u := by
  rcases r with r | ⟨o, r⟩
  · exact x a u r
  · obtain ⟨_, q⟩ := x a _ r
    exact q
/-- what may be written -/
def Mut : Option HO → Prop
  | some (.lst _) => True
  | some (.dK _) => True
  | some (.dT _) => True
  | some (.set _ _) => True
  | some (.ins _ _ _) => True
  | some (.ext _) => True
  | _ => False
section
variable {P : Program} {w : World} {H : Hp} {h h' : Heap} {x e : Addr} {o' : HO}
/-- the object at e is changed: x itself, or the dict of the instance x -/
theorem HOk.write (ok : HOk P w H h) (mu : Mut (H x)) (he : e = x ∨ H e = some (.own x)) (k : ∀ b u, b ≠ e → h.get? b = some u → h'.get? b = some u) (heo : ∃ u, h'.get? e = some u)
    (new : ObjOk P w (upd H x o') h' x o') : HOk P w (upd H x o') h' := fun b u q => by
  have nown : ∀ c y, H c = some (.own y) → c ≠ x := fun c y r z => by subst z; rw [r] at mu; exact mu
  have ntup : ∀ c xs, H c = some (.tup xs) → c ≠ x := fun c xs r z => by subst z; rw [r] at mu; exact mu
  by_cases hb : b = x
  · subst hb; rw [upd_same] at q; cases q; exact new
  · rw [upd_ne hb] at q
    by_cases hbe : b = e
    · have q' : H b = some (.own x) := by
        rcases he with z | z
        · exact absurd (hbe.trans z) hb
        · rw [hbe]; exact z
      rw [q] at q'; cases q'
      obtain ⟨v, hv⟩ := heo
      exact ⟨v, by rw [hbe]; exact hv⟩
    · refine (ok b u q).stay (fun c v hc r => k c v ?_ r) (fun c r => by rw [upd_ne (nown c b r)]; exact r) fun c xs r => by rw [upd_ne (ntup c xs r)]; exact r
      rcases hc with rfl | hc
      · exact hbe
      · rintro rfl
        rcases he with z | z
        · exact nown c b hc z
        · rw [hc] at z; cases z; exact hb rfl
end

/-! ### kept unless tracked; of the frames at fs (the callers') the slots may change (an exception that passes writes there); of the records at ex (iterators) nothing is said -/
structure Un (fs ex : List Addr) (H H' : Hp) (h h' : Heap) : Prop where
  keep : ∀ b o, h.get? b = some o → H b = none → b ∉ fs → b ∉ ex → h'.get? b = some o
  slot : ∀ b o, h.get? b = some o → H b = none → b ∈ fs → b ∉ ex → ∃ sl, h'.get? b = some { o with slots := sl }
  free : ∀ b o, h.get? b = some o → H b = none → b ∉ ex → H' b = none
  there : ∀ b o, h.get? b = some o → b ∉ ex → ∃ o', h'.get? b = some o'
  tups : ∀ b xs, H b = some (.tup xs) → H' b = some (.tup xs)
  frzs : ∀ b o u, H b = some (.frz o u) → H' b = some (.frz o u)
  tbls : ∀ b ps, H b = some (.tbl ps) → ∃ more, H' b = some (.tbl (ps ++ more))
section
variable {fs fs' ex ex' : List Addr} {H H1 H2 : Hp} {h h1 h2 h' : Heap} {a x e : Addr} {o : HO}
theorem Un.any (u : Un fs ex H H1 h h1) {b : Addr} {ob : Obj} (q : h.get? b = some ob) (n : H b = none) (hx : b ∉ ex) : ∃ sl, h1.get? b = some { ob with slots := sl } := by
  by_cases hb : b ∈ fs
  · exact u.slot b ob q n hb hx
  · exact ⟨ob.slots, u.keep b ob q n hb hx⟩
theorem Un.kept (k : ∀ b u, h.get? b = some u → h'.get? b = some u) : Un fs ex H H h h' :=
  ⟨fun b ob q _ _ _ => k b ob q, fun b ob q _ _ _ => ⟨ob.slots, k b ob q⟩, fun _ _ _ n _ => n, fun b ob q _ => ⟨ob, k b ob q⟩, fun _ _ q => q, fun _ _ _ q => q, fun _ ps q => ⟨#[], by rw [q]; simp⟩⟩
theorem Un.refl : Un fs ex H H h h := Un.kept fun _ _ q => q
theorem Un.laid (k : ∀ b u, h.get? b = some u → h'.get? b = some u) (hp : h.objs.size ≤ a) (hn : H a = none) : Un fs ex H (upd H a o) h h' where
  keep := fun b u q _ _ _ => k b u q
  slot := fun b u q _ _ _ => ⟨u.slots, k b u q⟩
  free := fun b u q n _ => by rw [upd_ne (Nat.ne_of_lt (Nat.lt_of_lt_of_le (Heap.lt_size q) hp))]; exact n
  there := fun b u q _ => ⟨u, k b u q⟩
  tups := fun b xs q => by rw [upd_ne (ne_of_none q hn)]; exact q
  frzs := fun b u xs q => by rw [upd_ne (ne_of_none q hn)]; exact q
  tbls := fun b ps q => ⟨#[], by rw [upd_ne (ne_of_none q hn), q]; simp⟩
theorem Un.write (mu : Mut (H x)) (he : e = x ∨ H e = some (.own x)) (k : ∀ b u, b ≠ e → h.get? b = some u → h'.get? b = some u) (heo : ∃ u, h'.get? e = some u) : Un fs ex H (upd H x o) h h' := by
  have hx : ∀ b, H b = none → b ≠ x := fun b n z => by subst z; rw [n] at mu; exact mu
  have hb : ∀ b, H b = none → b ≠ e := fun b n z => by
    subst z
    rcases he with r | r
    · exact hx b n r
    · rw [n] at r; cases r
  have hm : ∀ b u, H b = some u → ¬ Mut (some u) → b ≠ x := fun b u q nm z => by subst z; rw [q] at mu; exact nm mu
  refine ⟨fun b u q n _ _ => k b u (hb b n) q, fun b u q n _ _ => ⟨u.slots, k b u (hb b n) q⟩, fun b u q n _ => by rw [upd_ne (hx b n)]; exact n, fun b u q _ => ?_,
    fun b xs q => by rw [upd_ne (hm b _ q fun z => z)]; exact q, fun b u xs q => by rw [upd_ne (hm b _ q fun z => z)]; exact q, fun b ps q => ⟨#[], by rw [upd_ne (hm b _ q fun z => z), q]; simp⟩⟩
  by_cases hbe : b = e
  · subst hbe; exact heo
  · exact ⟨u, k b u hbe q⟩
end

/-! ### the heap without what is tracked -/
def trk (h : Heap) (H : Hp) : List Addr := (List.range h.objs.size).filter fun a => (H a).isSome
def hidT (h : Heap) (H : Hp) : Heap := PySem.W.hideAll h (trk h H)
theorem hidT_size (h : Heap) (H : Hp) : (hidT h H).objs.size = h.objs.size := PySem.W.hideAll_size _ _
theorem hidT_get {h : Heap} {H : Hp} {b : Addr} {o : Obj} (e : h.get? b = some o) (n : H b = none) : (hidT h H).get? b = some o :=
  PySem.W.hideAll_get _ e fun hm => by
    have q : (H b).isSome = true := (List.mem_filter.mp hm).2
    rw [n] at q; simp at q
theorem of_hidT {h : Heap} {H : Hp} {b : Addr} {o : Obj} (e : (hidT h H).get? b = some o) : h.get? b = some o ∧ H b = none := by
  have e' : h.get? b = some o := PySem.W.of_hideAll (trk h H) e
  refine ⟨e', ?_⟩
  cases q : H b with
  | none => rfl
  | some x =>
    have hm : b ∈ trk h H := List.mem_filter.mpr ⟨List.mem_range.mpr (Heap.lt_size e'), by simp [q]⟩
    have z : (hidT h H).get? b = none := PySem.W.hideAll_none (trk h H) hm
    rw [z] at e; cases e

/-! ### OpenK's ledger, filled with every new object but one -/
def allNews (g h : Heap) (L : Addr) : List (Addr × Obj) := (List.range h.objs.size).filterMap fun a => if a = L ∨ (g.get? a).isSome = true then none else (h.get? a).map fun o => (a, o)
def rest (g h : Heap) (L d : Addr) : List (Addr × Obj) := (allNews g h L).filter fun p => decide (p.1 ≠ d)
end L2

namespace L2
open PySem PySem.Spec PyProof.Rows

/-- the module's facts, over the base: the heap at the law's entry without what is tracked there -/
structure Mod (K : PySem.W.Frag) (mg : Str → Option Value) (base : Heap) : Prop where
  kin : K.In base
  glob : base.Ns mainGlobals mg
  blt : ∃ mb, base.Ns builtinsNs mb ∧ ∀ x : Str, x ≠ "__name__" → mb x = bootBuiltins x
  nolimit : base.NoLimit

/-- the context: a def's body (or a comprehension's block) running. base: fixed through the whole law; s₀, H₀: the entry; outer: the frames whose slots others may change (a def's callers); stack: all frames that run;
   ex: iterators that were made ahead of the entry and are walked here (a comprehension's); fn: the names whose cells were made at the entry (a def: all; a comprehension's block: its own); calm: not within an except suite; pn: pins that every state bears; xe: what is wanted of an exception that leaves the code -/
structure Cx where
  prog : Program
  w : World
  K : PySem.W.Frag
  mg : Str → Option Value
  base : Heap
  A : Around
  N : List Str
  s₀ : Shared
  H₀ : Hp
  env : Env
  outer : List Env
  stack : List Env
  ex : List Addr
  fn : Str → Bool
  calm : Bool
  pn : List (Addr × Obj)
  xe : Value → Shared → Prop
/-- the callers' frames -/
def frs (l : List Env) : List Addr := l.filterMap (·.frame)
abbrev Cx.fs (X : Cx) : List Addr := frs X.outer

def Vis (sc : Scope) (x : Str) : Prop := sc.names.lookup x = some .local ∨ sc.names.lookup x = some .cell ∨ sc.names.lookup x = some .free
def Loc (sc : Scope) (x : Str) : Prop := sc.names.lookup x = some .local ∨ sc.names.lookup x = some .cell
def Look (env : Env) (h : Heap) (m : Str → Option Value) (x : Str) (u : Value) : Prop :=
  (env.kindOf x = some .local ∧ m x = some u) ∨ ((env.kindOf x = some .cell ∨ env.kindOf x = some .free) ∧ ∃ c, env.cells.lookup x = some c ∧ h.IsCell c (some u))

structure Cx.Ok (X : Cx) : Prop where
  mod : Mod X.K X.mg X.base
  kind : X.env.scope.kind = .function
  glob : X.env.globals = mainGlobals
  blt : X.env.builtins = builtinsNs
  above : X.s₀.heap.objs.size ≤ X.env.locals
  inj : ∀ x y c, X.env.cells.lookup x = some c → X.env.cells.lookup y = some c → x = y
  has : ∀ x, (X.env.kindOf x = some .cell ∨ X.env.kindOf x = some .free) → ∃ c, X.env.cells.lookup x = some c
  cab : ∀ x c, X.fn x = true → X.env.cells.lookup x = some c → X.s₀.heap.objs.size ≤ c
  hd : X.calm = true → X.A.handled = none
  frames : X.A.frames = some X.stack
  stk : X.stack = X.outer ∨ (X.stack = X.env :: X.outer ∧ X.env.frame = some X.env.locals)
  exf : ∀ b ∈ X.ex, b ≠ X.env.locals ∧ ∀ x c, X.env.cells.lookup x = some c → c ≠ b
  bs : ∀ b o, X.base.get? b = some o → X.s₀.heap.get? b = some o ∧ X.H₀ b = none
  bsz : X.base.objs.size ≤ X.s₀.heap.objs.size
  noex : ∀ b o, X.base.get? b = some o → b ∉ X.ex
  exfs : ∀ b ∈ X.ex, b ∉ X.fs
  funs : X.s₀.heap.FunFrames X.base X.outer
  frf : ∀ b ∈ X.fs, X.H₀ b = none

structure Inv (X : Cx) (pins : List (Addr × Obj)) (σ : List (Option V)) (H : Hp) (s : Shared) : Prop where
  ok : X.Ok
  os : s.os = X.s₀.os
  bare : AllBare s.gens
  base : Un X.fs X.ex X.H₀ H X.s₀.heap s.heap
  loc : ∃ m, s.heap.Ns X.env.locals m ∧ ∀ (i : Nat) (x : Str) (v : V), X.N[i]? = some x → σ[i]? = some (some v) → Vis X.env.scope x → ∃ u, RelV v u ∧ Look X.env s.heap m x u
  cell : ∀ x c, X.env.cells.lookup x = some c → ∃ v, s.heap.IsCell c v
  free : H X.env.locals = none
  freeC : ∀ x c, X.env.cells.lookup x = some c → H c = none
  pin : ∀ p ∈ X.pn ++ pins, s.heap.get? p.1 = some p.2 ∧ H p.1 = none ∧ p.1 ≠ X.env.locals ∧ p.1 ∉ X.fs ∧ ∀ v, p.2.data ≠ .cell v
  hok : HOk X.prog X.w H s.heap
  len : σ.length = X.N.length

section
variable {X : Cx} {pins : List (Addr × Obj)} {σ : List (Option V)} {H H' : Hp} {s : Shared} {h' : Heap}

theorem Cx.Ok.nofr (ok : X.Ok) {b : Addr} {o : Obj} (e : X.base.get? b = some o) : b ∉ X.fs := fun hb => by
  have := (ok.funs.mem hb).1
  rw [e] at this; cases this
theorem Inv.bs (I : Inv X pins σ H s) : ∀ b o, X.base.get? b = some o → s.heap.get? b = some o ∧ H b = none := fun b o e =>
  ⟨I.base.keep b o (I.ok.bs b o e).1 (I.ok.bs b o e).2 (I.ok.nofr e) (I.ok.noex b o e), I.base.free b o (I.ok.bs b o e).1 (I.ok.bs b o e).2 (I.ok.noex b o e)⟩
theorem Inv.bk (I : Inv X pins σ H s) : ∀ b o, X.base.get? b = some o → s.heap.get? b = some o := fun b o e => (I.bs b o e).1
theorem Inv.mod (I : Inv X pins σ H s) : Mod X.K X.mg X.base := I.ok.mod
theorem Inv.kIn (I : Inv X pins σ H s) : X.K.In s.heap := I.ok.mod.kin.keeps I.bk
theorem Inv.lt (I : Inv X pins σ H s) : X.env.locals < s.heap.objs.size := let ⟨_, hn, _⟩ := I.loc; hn.lt
theorem Inv.sz (I : Inv X pins σ H s) : X.s₀.heap.objs.size ≤ s.heap.objs.size := Nat.le_trans I.ok.above (Nat.le_of_lt I.lt)
theorem Inv.nofs (I : Inv X pins σ H s) {a : Addr} (h : s.heap.objs.size ≤ a) : a ∉ X.fs := fun hb => by
  obtain ⟨_, o, ho, _⟩ := I.ok.funs.mem hb
  exact absurd (Nat.lt_of_lt_of_le (Heap.lt_size ho) (Nat.le_trans I.sz h)) (Nat.lt_irrefl _)
theorem Inv.cne (I : Inv X pins σ H s) : ∀ x c, X.env.cells.lookup x = some c → c ≠ X.env.locals := fun x c e z => by
  obtain ⟨v, o, ho, hd⟩ := I.cell x c e
  obtain ⟨m, ⟨o', es, ep, ho', hd', _⟩, _⟩ := I.loc
  rw [z, ho'] at ho; cases ho; rw [hd'] at hd; cases hd
theorem Inv.funs (I : Inv X pins σ H s) : s.heap.FunFrames X.base X.outer := by
  have all : ∀ (l : List Env), (∀ b ∈ frs l, b ∈ X.fs) → X.s₀.heap.FunFrames X.base l → s.heap.FunFrames X.base l := by
    intro l
    induction l with
    | nil => intro _ _; trivial
    | cons env r ih =>
      intro hs hl
      obtain ⟨hk, ⟨L, o, hf, hn, ho, hd⟩, hr⟩ := hl
      have hL : L ∈ X.fs := hs L (by unfold frs; rw [List.filterMap_cons, hf]; exact List.mem_cons_self)
      obtain ⟨sl, e⟩ := I.base.slot L o ho (I.ok.frf L hL) hL fun z => I.ok.exfs L z hL
      exact ⟨hk, ⟨L, _, hf, hn, e, hd⟩, ih (fun b hb => hs b (by unfold frs; rw [List.filterMap_cons, hf]; exact List.mem_cons_of_mem _ hb)) hr⟩
  exact all X.outer (fun _ hb => hb) I.ok.funs

/-- the frames that run, for a call -/
theorem Inv.stack (I : Inv X pins σ H s) : s.heap.FunFrames X.base X.stack := by
  rcases I.ok.stk with e | ⟨e, hf⟩
  · rw [e]; exact I.funs
  · rw [e]
    obtain ⟨m, hn, _⟩ := I.loc
    refine .cons (by rw [I.ok.kind]; decide) hf hn ?_ I.funs
    exact Heap.get?_none_of_le (Nat.le_trans I.ok.bsz I.ok.above)
theorem Inv.stkSub (I : Inv X pins σ H s) : ∀ b ∈ frs X.stack, b ∈ X.env.locals :: X.fs := fun b hb => by
  rcases I.ok.stk with e | ⟨e, hf⟩
  · rw [e] at hb; exact List.mem_cons_of_mem _ hb
  · rw [e] at hb
    unfold frs at hb
    rw [List.filterMap_cons, hf] at hb
    exact hb
theorem Inv.stkFree (I : Inv X pins σ H s) : ∀ b ∈ frs X.stack, H b = none := fun b hb => by
  rcases List.mem_cons.mp (I.stkSub b hb) with e | hb
  · rw [e]; exact I.free
  · obtain ⟨_, o, ho, _⟩ := I.ok.funs.mem hb
    exact I.base.free b o ho (I.ok.frf b hb) fun z => I.ok.exfs b z hb

/-- THE STEP: the untracked objects but the frame and the records at ch are kept (the callers' frames up to slots), the frame's map is kept, the new abstract heap is held -/
theorem Inv.step {g' : Array GenState} {t' : Nat} {d' : Drawn} {ch : List Addr} (I : Inv X pins σ H s)
    (hch : ∀ b ∈ ch, (b ∈ X.ex ∨ X.s₀.heap.objs.size ≤ b) ∧ b ≠ X.env.locals ∧ (∀ x c, X.env.cells.lookup x = some c → c ≠ b) ∧ ∀ p ∈ X.pn ++ pins, p.1 ≠ b)
    (keep : ∀ b o, b ≠ X.env.locals → b ∉ X.fs → b ∉ ch → s.heap.get? b = some o → H b = none → h'.get? b = some o)
    (slot : ∀ b o, b ≠ X.env.locals → b ∈ X.fs → b ∉ ch → s.heap.get? b = some o → H b = none → ∃ sl, h'.get? b = some { o with slots := sl }) (free : ∀ b o, b ∉ ch → s.heap.get? b = some o → H b = none → H' b = none)
    (there : ∀ b o, b ∉ ch → s.heap.get? b = some o → ∃ o', h'.get? b = some o')
    (tups : ∀ b xs, H b = some (.tup xs) → H' b = some (.tup xs)) (frzs : ∀ b o u, H b = some (.frz o u) → H' b = some (.frz o u)) (tbls : ∀ b ps, H b = some (.tbl ps) → ∃ more, H' b = some (.tbl (ps ++ more)))
    (ns : ∀ m, s.heap.Ns X.env.locals m → h'.Ns X.env.locals m) (hok : HOk X.prog X.w H' h') (hg : AllBare g') :
    Inv X pins σ H' { s with heap := h', gens := g', drawn := d', toks := t' } := by
  have neL : ∀ b o, X.s₀.heap.get? b = some o → b ≠ X.env.locals := fun b o e => Nat.ne_of_lt (Nat.lt_of_lt_of_le (Heap.lt_size e) I.ok.above)
  have neC : ∀ b o, X.s₀.heap.get? b = some o → b ∉ X.ex → b ∉ ch := fun b o e hx hb => by
    rcases (hch b hb).1 with z | z
    · exact hx z
    · exact absurd (Nat.lt_of_lt_of_le (Heap.lt_size e) z) (Nat.lt_irrefl _)
  have cellK : ∀ x c, X.env.cells.lookup x = some c → ∀ v, s.heap.IsCell c v → h'.IsCell c v := fun x c e v ⟨o, ho, hd⟩ => by
    have nch : c ∉ ch := fun z => (hch c z).2.2.1 x c e rfl
    by_cases hc : c ∈ X.fs
    · obtain ⟨sl, q⟩ := slot c o (I.cne x c e) hc nch ho (I.freeC x c e)
      exact ⟨_, q, hd⟩
    · exact ⟨o, keep c o (I.cne x c e) hc nch ho (I.freeC x c e), hd⟩
  refine ⟨I.ok, I.os, hg, ⟨fun b o e n hb hx => ?_, fun b o e n hb hx => ?_, fun b o e n hx => ?_, fun b o e hx => ?_, fun b xs e => tups b xs (I.base.tups b xs e), fun b o xs e => frzs b o xs (I.base.frzs b o xs e), fun b ps e => ?_⟩, ?_, fun x c e => ?_, ?_, fun x c e => ?_, fun p hp => ?_, hok, I.len⟩
  · exact keep b o (neL b o e) hb (neC b o e hx) (I.base.keep b o e n hb hx) (I.base.free b o e n hx)
  · obtain ⟨sl, e1⟩ := I.base.slot b o e n hb hx
    obtain ⟨sl', e2⟩ := slot b _ (neL b o e) hb (neC b o e hx) e1 (I.base.free b o e n hx)
    exact ⟨sl', e2⟩
  · obtain ⟨o', e1⟩ := I.base.there b o e hx
    exact free b o' (neC b o e hx) e1 (I.base.free b o e n hx)
  · obtain ⟨o', e1⟩ := I.base.there b o e hx
    exact there b o' (neC b o e hx) e1
  · obtain ⟨m1, e1⟩ := I.base.tbls b ps e
    obtain ⟨m2, e2⟩ := tbls b _ e1
    exact ⟨m1 ++ m2, by rw [e2, Array.append_assoc]⟩
  · obtain ⟨m, hn, hl⟩ := I.loc
    refine ⟨m, ns m hn, fun i x v e1 e2 e3 => ?_⟩
    obtain ⟨u, r, l⟩ := hl i x v e1 e2 e3
    refine ⟨u, r, ?_⟩
    rcases l with l | ⟨k, c, e, z⟩
    · exact .inl l
    · exact .inr ⟨k, c, e, cellK x c e _ z⟩
  · obtain ⟨v, z⟩ := I.cell x c e
    exact ⟨v, cellK x c e v z⟩
  · obtain ⟨m, ⟨o, _, _, ho, _⟩, _⟩ := I.loc
    exact free _ o (fun z => (hch _ z).2.1 rfl) ho I.free
  · obtain ⟨v, o, ho, hd⟩ := I.cell x c e
    exact free c o (fun z => (hch c z).2.2.1 x c e rfl) ho (I.freeC x c e)
  · obtain ⟨e, n, ne, nf, d⟩ := I.pin p hp
    have nch : p.1 ∉ ch := fun z => (hch p.1 z).2.2.2 p hp rfl
    exact ⟨keep p.1 p.2 ne nf nch e n, free p.1 p.2 nch e n, ne, nf, d⟩
/-- .. where the frame's own object is kept too -/
theorem Inv.un {t' : Nat} (I : Inv X pins σ H s) (u : Un X.fs [] H H' s.heap h') (hok : HOk X.prog X.w H' h') : Inv X pins σ H' { s with heap := h', toks := t' } := by
  obtain ⟨m, ⟨o, es, ep, ho, r⟩, _⟩ := id I.loc
  obtain ⟨sl, hL⟩ := u.any ho I.free (by simp)
  exact I.step (g' := s.gens) (d' := s.drawn) (ch := []) (fun _ z => nomatch z) (fun b o _ hb _ e n => u.keep b o e n hb (by simp)) (fun b o _ hb _ e n => u.slot b o e n hb (by simp)) (fun b o _ e n => u.free b o e n (by simp)) (fun b o _ e => u.there b o e (by simp)) u.tups u.frzs u.tbls (fun m' hm => by
    obtain ⟨o', es', ep', ho', r'⟩ := hm
    rw [ho] at ho'; cases ho'
    exact ⟨_, es', ep', hL, r'⟩) hok I.bare
/-- behind a call (or a comprehension's block): the slots of this frame may have changed too, the records at ch may have turned -/
theorem Inv.call {g' : Array GenState} {t' : Nat} {d' : Drawn} {ch : List Addr} (I : Inv X pins σ H s) (u : Un (frs X.stack) ch H H' s.heap h') (hok : HOk X.prog X.w H' h') (hg : AllBare g')
    (hch : ∀ b ∈ ch, (b ∈ X.ex ∨ X.s₀.heap.objs.size ≤ b) ∧ b ≠ X.env.locals ∧ (∀ x c, X.env.cells.lookup x = some c → c ≠ b) ∧ ∀ p ∈ X.pn ++ pins, p.1 ≠ b) :
    Inv X pins σ H' { s with heap := h', gens := g', drawn := d', toks := t' } := by
  obtain ⟨m, ⟨o, es, ep, ho, r⟩, _⟩ := id I.loc
  obtain ⟨sl, hL⟩ := u.any ho I.free fun z => (hch _ z).2.1 rfl
  exact I.step (ch := ch) hch (fun b o hL hb hc e n => u.keep b o e n (fun z => (List.mem_cons.mp (I.stkSub b z)).elim hL hb) hc) (fun b o _ _ hc e n => u.any e n hc) (fun b o hc e n => u.free b o e n hc) (fun b o hc e => u.there b o e hc) u.tups u.frzs u.tbls (fun m' hm => by
    obtain ⟨o', es', ep', ho', r'⟩ := hm
    rw [ho] at ho'; cases ho'
    exact ⟨_, es', ep', hL, r'⟩) hok hg
/-- an untracked record of ours (an iterator) has turned -/
theorem Inv.turned {t' : Nat} {it : Addr} (I : Inv X pins σ H s) (k : ∀ b o, b ≠ it → s.heap.get? b = some o → h'.get? b = some o) (hn : H it = none) (hL : it ≠ X.env.locals)
    (h1 : it ∈ X.ex ∨ X.s₀.heap.objs.size ≤ it) (h2 : ∀ x c, X.env.cells.lookup x = some c → c ≠ it) (h3 : ∀ p ∈ X.pn ++ pins, p.1 ≠ it) : Inv X pins σ H { s with heap := h', toks := t' } := by
  have nit : ∀ b u, H b = some u → b ≠ it := fun b u e z => by rw [z, hn] at e; cases e
  refine I.step (g' := s.gens) (d' := s.drawn) (ch := [it]) (fun b hb => ?_) (fun b o _ _ hc e _ => k b o (fun z => hc (by simp [z])) e) (fun b o _ _ hc e _ => ⟨o.slots, k b o (fun z => hc (by simp [z])) e⟩) (fun _ _ _ _ n => n)
    (fun b o hc e => ⟨o, k b o (fun z => hc (by simp [z])) e⟩) (fun _ _ e => e) (fun _ _ _ e => e) (fun b ps e => ⟨#[], by rw [e]; simp⟩) (fun m hm => ?_) (fun b u e => ?_) I.bare
  · have e : b = it := by simpa using hb
    subst e
    exact ⟨h1, hL, h2, h3⟩
  · obtain ⟨o, es, ep, ho, r⟩ := hm
    exact ⟨o, es, ep, k _ o (Ne.symm hL) ho, r⟩
  · refine (I.hok b u e).stay (fun c v hc q => k c v ?_ q) (fun _ q => q) fun _ _ q => q
    rcases hc with z | z
    · rw [z]; exact nit b u e
    · exact nit c _ z
theorem Inv.tok (I : Inv X pins σ H s) (t : Nat) : Inv X pins σ H { s with toks := t } := I.un (h' := s.heap) (t' := t) Un.refl I.hok
/-- all objects kept -/
theorem Inv.kept {t' : Nat} (I : Inv X pins σ H s) (k : ∀ b u, s.heap.get? b = some u → h'.get? b = some u) : Inv X pins σ H { s with heap := h', toks := t' } := I.un (Un.kept k) (I.hok.kept k)
/-- a new object laid and tracked -/
theorem Inv.laid {a : Addr} {o : HO} {t' : Nat} (I : Inv X pins σ H s) (k : ∀ b u, s.heap.get? b = some u → h'.get? b = some u) (hp : s.heap.objs.size ≤ a) (new : ObjOk X.prog X.w (upd H a o) h' a o) :
    Inv X pins σ (upd H a o) { s with heap := h', toks := t' } := I.un (Un.laid k hp (I.hok.fresh hp)) (I.hok.laid k hp new)
/-- an object written -/
theorem Inv.write {x e : Addr} {o : HO} {t' : Nat} (I : Inv X pins σ H s) (mu : Mut (H x)) (he : e = x ∨ H e = some (.own x)) (k : ∀ b u, b ≠ e → s.heap.get? b = some u → h'.get? b = some u) (heo : ∃ u, h'.get? e = some u)
    (new : ObjOk X.prog X.w (upd H x o) h' x o) : Inv X pins σ (upd H x o) { s with heap := h', toks := t' } := I.un (Un.write mu he k heo) (I.hok.write mu he k heo new)
theorem Inv.pins_of {pins' : List (Addr × Obj)} (I : Inv X pins σ H s) (h : ∀ p ∈ pins', s.heap.get? p.1 = some p.2 ∧ H p.1 = none ∧ p.1 ≠ X.env.locals ∧ p.1 ∉ X.fs ∧ ∀ v, p.2.data ≠ .cell v) : Inv X pins' σ H s :=
  ⟨I.ok, I.os, I.bare, I.base, I.loc, I.cell, I.free, I.freeC, fun p hp => (List.mem_append.mp hp).elim (fun z => I.pin p (List.mem_append_left _ z)) (h p), I.hok, I.len⟩

theorem nodup_ix {N : List Str} (hN : N.Nodup) {i j : Nat} {x : Str} (a : N[i]? = some x) (b : N[j]? = some x) : i = j := by
  obtain ⟨h1, e1⟩ := List.getElem?_eq_some_iff.mp a
  obtain ⟨h2, e2⟩ := List.getElem?_eq_some_iff.mp b
  exact (List.getElem_inj hN).mp (e1.trans e2.symm)

/-- a name is stored; what changed -/
theorem store_ok2 {M : Model} {A : Around} {E : Value → Shared → Prop} {i : Nat} {x : Str} {v : V} {u : Value} {Q : Unit → Shared → Prop} (I : Inv X pins σ H s) (hN : X.N.Nodup) (hi : X.N[i]? = some x) (hx : Loc X.env.scope x) (r : RelV v u)
    (h : ∀ s', Inv X pins (σ.set i (some v)) H s' → (∃ a, Heap.SameBut a s.heap s'.heap ∧ (a = X.env.locals ∨ X.env.cells.lookup x = some a)) → Q () s') (hf : X.fn x = true ∨ X.env.scope.names.lookup x = some .local := by first | exact .inl rfl | exact .inr rfl | assumption) : wpAny M A (storeName X.env x u) Q E s := by
  obtain ⟨m, hn, hl⟩ := id I.loc
  have hcls : (X.env.scope.kind == .class || (X.env.scope.kind == .module && X.env.locals != X.env.globals)) = false := by rw [I.ok.kind]; rfl
  have hiσ : i < σ.length := by rw [I.len]; exact (List.getElem?_eq_some_iff.mp hi).1
  have cne := I.cne
  have tracked : ∀ {a : Addr} {h' : Heap}, (∃ o, s.heap.get? a = some o ∧ H a = none) → Heap.SameBut a s.heap h' → HOk X.prog X.w H h' := fun {a h'} ha hs b ob e => by
    obtain ⟨_, _, hfree⟩ := ha
    refine (I.hok b ob e).stay (fun c w' hc q => (hs.2 c ?_).trans q) (fun _ q => q) fun _ _ q => q
    rintro rfl
    rcases hc with rfl | hc
    · rw [hfree] at e; cases e
    · rw [hfree] at hc; cases hc
  rcases hx with hk | hk
  · refine wpAny_storeName_local hk hn (fun h' hn' hs => ?_) hcls
    obtain ⟨oL, _, _, hoL, _⟩ := id hn
    refine h _ ⟨I.ok, I.os, I.bare, ⟨fun b o e n hb hx => ?_, fun b o e n hb hx => ?_, I.base.free, fun b o e hx => ?_, I.base.tups, I.base.frzs, I.base.tbls⟩, ⟨_, hn', fun j y v' e1 e2 e3 => ?_⟩, fun y c e => ?_, I.free, I.freeC, fun p hp => ?_, tracked ⟨oL, hoL, I.free⟩ hs, by simpa using I.len⟩ ⟨_, hs, .inl rfl⟩
    · exact (hs.2 b (Nat.ne_of_lt (Nat.lt_of_lt_of_le (Heap.lt_size e) I.ok.above))).trans (I.base.keep b o e n hb hx)
    · obtain ⟨sl, e1⟩ := I.base.slot b o e n hb hx
      exact ⟨sl, (hs.2 b (Nat.ne_of_lt (Nat.lt_of_lt_of_le (Heap.lt_size e) I.ok.above))).trans e1⟩
    · obtain ⟨o', e1⟩ := I.base.there b o e hx
      exact ⟨o', (hs.2 b (Nat.ne_of_lt (Nat.lt_of_lt_of_le (Heap.lt_size e) I.ok.above))).trans e1⟩
    · by_cases hj : j = i
      · subst hj
        rw [hi] at e1; cases e1
        rw [List.getElem?_set_self hiσ] at e2
        cases e2
        exact ⟨u, r, .inl ⟨hk, by simp⟩⟩
      · rw [List.getElem?_set_ne (Ne.symm hj)] at e2
        obtain ⟨u', r', q⟩ := hl j y v' e1 e2 e3
        refine ⟨u', r', ?_⟩
        rcases q with ⟨k, e⟩ | ⟨k, c, e, z⟩
        · refine .inl ⟨k, ?_⟩
          have : y ≠ x := fun e => hj (nodup_ix hN e1 (e ▸ hi))
          simp [this, e]
        · exact .inr ⟨k, c, e, z.sameBut hs (cne y c e)⟩
    · obtain ⟨w', z⟩ := I.cell y c e
      exact ⟨w', z.sameBut hs (cne y c e)⟩
    · obtain ⟨e, n, ne, nf, d⟩ := I.pin p hp
      exact ⟨(hs.2 p.1 ne).trans e, n, ne, nf, d⟩
  · have hfn : X.fn x = true := by
      rcases hf with z | z
      · exact z
      · rw [z] at hk; cases hk
    obtain ⟨c, hc⟩ := I.ok.has x (.inl hk)
    obtain ⟨w', z⟩ := I.cell x c hc
    refine wpAny_storeName_cell I.ok.kind hk hc z (fun h' hc' hs => ?_)
    obtain ⟨oc, hoc, hocd⟩ := id z
    refine h { s with heap := h' } ⟨I.ok, I.os, I.bare, ⟨fun b o e n hb hx => ?_, fun b o e n hb hx => ?_, I.base.free, fun b o e hx => ?_, I.base.tups, I.base.frzs, I.base.tbls⟩, ⟨m, hn.sameBut hs (Ne.symm (cne x c hc)), fun j y v' e1 e2 e3 => ?_⟩, fun y c' e => ?_, I.free, I.freeC, fun p hp => ?_, tracked ⟨oc, hoc, I.freeC x c hc⟩ hs, by simpa using I.len⟩ ⟨c, hs, .inr hc⟩
    · exact (hs.2 b (Nat.ne_of_lt (Nat.lt_of_lt_of_le (Heap.lt_size e) (I.ok.cab x c hfn hc)))).trans (I.base.keep b o e n hb hx)
    · obtain ⟨sl, e1⟩ := I.base.slot b o e n hb hx
      exact ⟨sl, (hs.2 b (Nat.ne_of_lt (Nat.lt_of_lt_of_le (Heap.lt_size e) (I.ok.cab x c hfn hc)))).trans e1⟩
    · obtain ⟨o', e1⟩ := I.base.there b o e hx
      exact ⟨o', (hs.2 b (Nat.ne_of_lt (Nat.lt_of_lt_of_le (Heap.lt_size e) (I.ok.cab x c hfn hc)))).trans e1⟩
    · by_cases hj : j = i
      · subst hj
        rw [hi] at e1; cases e1
        rw [List.getElem?_set_self hiσ] at e2
        cases e2
        exact ⟨u, r, .inr ⟨.inl hk, c, hc, hc'⟩⟩
      · rw [List.getElem?_set_ne (Ne.symm hj)] at e2
        obtain ⟨u', r', q⟩ := hl j y v' e1 e2 e3
        refine ⟨u', r', ?_⟩
        rcases q with q | ⟨k, c', e, z'⟩
        · exact .inl q
        · refine .inr ⟨k, c', e, z'.sameBut hs ?_⟩
          rintro rfl
          exact hj (nodup_ix hN e1 (I.ok.inj _ _ _ e hc ▸ hi))
    · by_cases hcc : c' = c
      · subst hcc; exact ⟨_, hc'⟩
      · obtain ⟨w2, z2⟩ := I.cell y c' e
        exact ⟨w2, z2.sameBut hs hcc⟩
    · obtain ⟨e, n, ne, nf, d⟩ := I.pin p hp
      refine ⟨(hs.2 p.1 ?_).trans e, n, ne, nf, d⟩
      intro q
      rw [q, hoc] at e
      have q' : oc = p.2 := Option.some.inj e
      exact d w' (by rw [← q']; exact hocd)
theorem store_ok {M : Model} {A : Around} {E : Value → Shared → Prop} {i : Nat} {x : Str} {v : V} {u : Value} {Q : Unit → Shared → Prop} (I : Inv X pins σ H s) (hN : X.N.Nodup) (hi : X.N[i]? = some x) (hx : Loc X.env.scope x) (r : RelV v u)
    (h : ∀ s', Inv X pins (σ.set i (some v)) H s' → Q () s') (hf : X.fn x = true ∨ X.env.scope.names.lookup x = some .local := by first | exact .inl rfl | exact .inr rfl | assumption) : wpAny M A (storeName X.env x u) Q E s :=
  store_ok2 I hN hi hx r (fun s' I' _ => h s' I') hf
/-- behind a call or a block, the state as it is -/
theorem Inv.call' {s' : Shared} {ch : List Addr} (I : Inv X pins σ H s) (ho : s'.os = s.os) (u : Un (frs X.stack) ch H H' s.heap s'.heap) (hok : HOk X.prog X.w H' s'.heap) (hg : AllBare s'.gens)
    (hch : ∀ b ∈ ch, (b ∈ X.ex ∨ X.s₀.heap.objs.size ≤ b) ∧ b ≠ X.env.locals ∧ (∀ x c, X.env.cells.lookup x = some c → c ≠ b) ∧ ∀ p ∈ X.pn ++ pins, p.1 ≠ b) : Inv X pins σ H' s' := by
  obtain ⟨h', g', d', t', o'⟩ := s'
  have e : o' = s.os := ho
  subst e
  exact I.call (g' := g') (t' := t') (d' := d') u hok hg hch
end

/-! ### the judgements -/
/-- an exception: its class, its own dict's address (where it has one), the abstract heap behind it -/
abbrev XK := Value → Option Addr → Hp → Prop
abbrev St := List (Option V)
abbrev VK := V → Hp → Prop
/-- an expression's reading; a test's; an argument list's -/
abbrev TE := St → Hp → VK → Prop
abbrev TT := St → Hp → (Bool → Hp → Prop) → Prop
abbrev TA := St → Hp → (List V → Hp → Prop) → Prop
/-- what is wanted behind a statement -/
structure Ends where
  nx : St → Hp → Prop
  rt : VK
  bk : St → Hp → Prop := fun _ _ => False
  ct : St → Hp → Prop := fun _ _ => False
abbrev TS := Ends → St → Hp → Prop

def EP (X : Cx) (pins : List (Addr × Obj)) (σ : St) (Q : VK) (u : Value) (s' : Shared) : Prop := ∃ v H', Inv X pins σ H' s' ∧ RelV v u ∧ Q v H'
def TP (X : Cx) (pins : List (Addr × Obj)) (σ : St) (Q : Bool → Hp → Prop) (b : Bool) (s' : Shared) : Prop := ∃ H', Inv X pins σ H' s' ∧ Q b H'
def AP (X : Cx) (pins : List (Addr × Obj)) (σ : St) (Q : List V → Hp → Prop) (us : List Value) (s' : Shared) : Prop := ∃ vs H', Inv X pins σ H' s' ∧ Vals vs us ∧ Q vs H'
def SP (X : Cx) (pins : List (Addr × Obj)) (D : Ends) (f : Flow) (s' : Shared) : Prop :=
  match f with
  | .next => ∃ σ' H', Inv X pins σ' H' s' ∧ D.nx σ' H'
  | .brk => ∃ σ' H', Inv X pins σ' H' s' ∧ D.bk σ' H'
  | .cont => ∃ σ' H', Inv X pins σ' H' s' ∧ D.ct σ' H'
  | .ret u => ∃ v σ' H', Inv X pins σ' H' s' ∧ RelV v u ∧ D.rt v H'

def PE (X : Cx) (e : Expr) (t : TE) : Prop :=
  ∀ (pins : List (Addr × Obj)) (s : Shared) (σ : St) (H : Hp) (Q : VK), Inv X pins σ H s → t σ H Q → wpAny (model X.prog X.w) X.A (eval e X.env) (EP X pins σ Q) X.xe s
def PT (X : Cx) (e : Expr) (t : TT) : Prop :=
  ∀ (pins : List (Addr × Obj)) (s : Shared) (σ : St) (H : Hp) (Q : Bool → Hp → Prop), Inv X pins σ H s → t σ H Q → wpAny (model X.prog X.w) X.A (isTrue e X.env (eval e X.env)) (TP X pins σ Q) X.xe s
/-- a test whatever its 'whole' is (and, or) -/
def PW (X : Cx) (e : Expr) (t : TT) : Prop :=
  ∀ (whole : Sem Value) (pins : List (Addr × Obj)) (s : Shared) (σ : St) (H : Hp) (Q : Bool → Hp → Prop), Inv X pins σ H s → t σ H Q → wpAny (model X.prog X.w) X.A (isTrue e X.env whole) (TP X pins σ Q) X.xe s
theorem PW.pt {X : Cx} {e : Expr} {t : TT} (h : PW X e t) : PT X e t := h _
/-- an argument list (no star), from the left -/
def PA (X : Cx) (es : List Expr) (t : TA) : Prop :=
  ∀ (pos : Pos) (pins : List (Addr × Obj)) (s : Shared) (σ : St) (H : Hp) (Q : List V → Hp → Prop), Inv X pins σ H s → t σ H Q → wpAny (model X.prog X.w) X.A (spliced (backTo pos (starEach es X.env))) (AP X pins σ Q) X.xe s
def PS (X : Cx) (st : Stmt) (t : TS) : Prop :=
  ∀ (pins : List (Addr × Obj)) (s : Shared) (σ : St) (H : Hp) (D : Ends), Inv X pins σ H s → t D σ H → wpAny (model X.prog X.w) X.A (exec st X.env) (SP X pins D) X.xe s
def PSs (X : Cx) (st : List Stmt) (t : TS) : Prop :=
  ∀ (pins : List (Addr × Obj)) (s : Shared) (σ : St) (H : Hp) (D : Ends), Inv X pins σ H s → t D σ H → wpAny (model X.prog X.w) X.A (execs st X.env) (SP X pins D) X.xe s
/-- weaken the end -/
theorem thn {α : Type} {t : Sem α} {Q Q' : α → Shared → Prop} {M : Model} {A : Around} {E : Value → Shared → Prop} {s : Shared} (h : wpAny M A t Q E s) (hQ : ∀ a s, Q a s → Q' a s) : wpAny M A t Q' E s := wpAny_mono h hQ fun _ _ x => x
end L2

namespace L2
open PySem PySem.Spec PyProof.Rows
section
variable {X : Cx}


/-! ### names and constants -/
def tVar (i : Nat) : TE := fun σ H Q => ∃ v, σ[i]? = some (some v) ∧ Q v H
def tC (v : V) : TE := fun _ H Q => Q v H
theorem pe_var {i : Nat} {x : Str} {pos : Pos} (hN : X.N[i]? = some x) (hv : Vis X.env.scope x) (hd : (x == ("__debug__" : Str)) = false := by decide) (hcd : (x == ("__classdict__" : Str)) = false := by decide) : PE X (.Name x pos) (tVar i) := by
  intro pins s σ H Q I h
  obtain ⟨v, e, h⟩ := h
  obtain ⟨m, hn, hl⟩ := I.loc
  obtain ⟨u, r, l⟩ := hl i x v hN e hv
  have fin : EP X pins σ Q u s := ⟨v, H, I, r, h⟩
  rcases l with ⟨hk, hm⟩ | ⟨hk, c, hc, hcell⟩
  · exact wpAny_Name (wpAny_loadName_local I.ok.kind hk hn hm fin) hd
  · rcases hk with hk | hk
    · exact wpAny_Name (wpAny_loadName_cell I.ok.kind hk hc hcell fin) hd
    · exact wpAny_Name (wpAny_loadName_free I.ok.kind hk hc hcell fin hcd) hd
theorem pe_int {i j pos} : PE X (.Constant (.int i) j pos) (tC (.int i)) := fun _ _ _ H _ I h => wpAny_Constant_int ⟨.int i, H, I.tok _, ⟨_, rfl⟩, h⟩
theorem pe_bl {b j pos} : PE X (.Constant (.bool b) j pos) (tC (.bl b)) := fun _ _ _ H _ I h => Constant_bool ⟨.bl b, H, I, rfl, h⟩
theorem pe_str {x j pos} : PE X (.Constant (.str x) j pos) (tC (.str x)) := fun _ _ _ H _ I h => Calls.Constant_str ⟨.str x, H, I.tok _, ⟨_, rfl⟩, h⟩

/-- a global name of the def -/
def Gl (X : Cx) (x : Str) : Prop := X.env.kindOf x = some .globalImplicit
theorem ld_glob {E : Value → Shared → Prop} {pins : List (Addr × Obj)} {s : Shared} {σ : St} {H : Hp} {x : Str} {u : Value} {pos : Pos} {Q : Value → Shared → Prop} (I : Inv X pins σ H s) (hg : Gl X x) (hm : X.mg x = some u) (h : Q u s)
    (hd : (x == ("__debug__" : Str)) = false := by decide) : wpAny (model X.prog X.w) X.A (eval (.Name x pos) X.env) Q E s :=
  Calls.Name_function_global I.ok.kind hg (Calls.loadGlobal_global (by rw [I.ok.glob]; exact I.mod.glob.keeps I.bk) hm h) hd
theorem ld_blt {E : Value → Shared → Prop} {pins : List (Addr × Obj)} {s : Shared} {σ : St} {H : Hp} {x : Str} {u : Value} {pos : Pos} {Q : Value → Shared → Prop} (I : Inv X pins σ H s) (hg : Gl X x) (hm : X.mg x = none) (hv : bootBuiltins x = some u) (h : Q u s)
    (hn : x ≠ "__name__" := by decide) (hd : (x == ("__debug__" : Str)) = false := by decide) : wpAny (model X.prog X.w) X.A (eval (.Name x pos) X.env) Q E s := by
  obtain ⟨mb, h1, h2⟩ := I.mod.blt
  exact Calls.Name_function_global I.ok.kind hg (Calls.loadGlobal_builtin (by rw [I.ok.glob]; exact I.mod.glob.keeps I.bk) hm (by rw [I.ok.blt]; exact h1.keeps I.bk) ((h2 x hn).trans hv) h) hd
/-- a module's constant, a class, a function, as a value -/
theorem pe_glob {x : Str} {v : V} {u : Value} {pos : Pos} (hg : Gl X x) (hm : X.mg x = some u) (r : RelV v u) (hd : (x == ("__debug__" : Str)) = false := by decide) : PE X (.Name x pos) (tC v) :=
  fun _ _ _ H _ I h => ld_glob I hg hm ⟨v, H, I, r, h⟩ hd
theorem pe_bltn {x : Str} {v : V} {u : Value} {pos : Pos} (hg : Gl X x) (hm : X.mg x = none) (hv : bootBuiltins x = some u) (r : RelV v u) (hn : x ≠ "__name__" := by decide) (hd : (x == ("__debug__" : Str)) = false := by decide) : PE X (.Name x pos) (tC v) :=
  fun _ _ _ H _ I h => ld_blt I hg hm hv ⟨v, H, I, r, h⟩ hn hd

/-! ### arithmetic -/
/-- two ints -/
def t2I (ta tb : TE) (k : Int → Int → Hp → Prop) : St → Hp → Prop := fun σ H => ta σ H fun x H1 => tb σ H1 fun y H2 => ∃ i j, x = .int i ∧ y = .int j ∧ k i j H2
def tAdd (ta tb : TE) : TE := fun σ H Q => t2I ta tb (fun i j H2 => Q (.int (i + j)) H2) σ H
def tSub (ta tb : TE) : TE := fun σ H Q => t2I ta tb (fun i j H2 => Q (.int (i - j)) H2) σ H
/-- the left factor below 2^64 -/
def tMul (ta tb : TE) : TE := fun σ H Q => t2I ta tb (fun i j H2 => (-(2 ^ 64) < i ∧ i < 2 ^ 64) ∧ Q (.int (i * j)) H2) σ H
variable {a b : Expr} {ta tb : TE} {pos : Pos}

/-! ### comparisons -/
def PC (X : Cx) (op : CmpOp) (a b : Expr) (t : TE) : Prop :=
  ∀ (pins : List (Addr × Obj)) (s : Shared) (σ : St) (H : Hp) (Q : VK), Inv X pins σ H s → t σ H Q →
    wpAny (model X.prog X.w) X.A (eval a X.env) (fun v s₁ => wpAny (model X.prog X.w) X.A (eval b X.env) (fun u s₂ => wpAny (model X.prog X.w) X.A (compareOp op v u) (EP X pins σ Q) X.xe s₂) X.xe s₁) X.xe s
def tCmp (p : Int → Int → Bool) (ta tb : TE) : TE := fun σ H Q => t2I ta tb (fun i j H2 => Q (.bl (p i j)) H2) σ H
abbrev tLt : TE → TE → TE := tCmp fun i j => decide (i < j)
abbrev tLe : TE → TE → TE := tCmp fun i j => decide (i ≤ j)
abbrev tGt : TE → TE → TE := tCmp fun i j => decide (j < i)
abbrev tGe : TE → TE → TE := tCmp fun i j => decide (j ≤ i)
abbrev tEqI : TE → TE → TE := tCmp fun i j => decide (i = j)
abbrev tNeI : TE → TE → TE := tCmp fun i j => !decide (i = j)
/-- is None -/
def tIsN (ta : TE) : TE := fun σ H Q => ta σ H fun x H1 => Q (.bl (decide (x = .non))) H1
def tNotN (ta : TE) : TE := fun σ H Q => ta σ H fun x H1 => Q (.bl (!decide (x = .non))) H1
/-- a comparison as a value, as a test -/
def tB (t : TE) : TT := fun σ H Q => t σ H fun x H1 => ∃ c, x = .bl c ∧ Q c H1
/-- an expression whose value is a bool, as a test -/
theorem pt_val {e : Expr} {t : TE} (h : PE X e t) (he : ∀ whole, isTrue e X.env whole = (do let v ← whole; standAt e.pos; holding [v] (truthy v)) := by intro _; rfl) : PT X e (tB t) := by
  intro pins s σ H Q I hw
  refine isTrue_plain (thn (h pins s σ H _ I hw) fun v s1 ⟨x, H1, I1, r1, q1⟩ => ?_) (he _)
  obtain ⟨d, rfl, q⟩ := q1
  cases r1
  exact wpAny_truthy_bool ⟨H1, I1, q⟩

/-! ### and, or, not -/
variable {tA tB' : TT} {rest : List Expr}
def tAnd (t u : TT) : TT := fun σ H Q => t σ H fun c H1 => if c = true then u σ H1 Q else Q false H1
def tOr (t u : TT) : TT := fun σ H Q => t σ H fun c H1 => if c = true then Q true H1 else u σ H1 Q
def tNot (t : TT) : TT := fun σ H Q => t σ H fun c H1 => Q (!c) H1
theorem pw_and1 (ha : PT X a tA) : PW X (.BoolOp .And [a] pos) tA := by
  intro wh pins s σ H Q I h
  refine isTrue_and (thn (ha pins s σ H Q I h) fun c s1 e => ?_)
  cases c with
  | true => exact isTrue_and_nil e
  | false => exact e
theorem pw_or1 (ha : PT X a tA) : PW X (.BoolOp .Or [a] pos) tA := by
  intro wh pins s σ H Q I h
  refine isTrue_or (thn (ha pins s σ H Q I h) fun c s1 e => ?_)
  cases c with
  | false => exact isTrue_or_nil e
  | true => exact e
theorem pw_and (ha : PT X a tA) (hb : PW X (.BoolOp .And (b :: rest) pos) tB') : PW X (.BoolOp .And (a :: b :: rest) pos) (tAnd tA tB') := by
  intro wh pins s σ H Q I h
  refine isTrue_and (thn (ha pins s σ H _ I h) fun c s1 ⟨H1, I1, q1⟩ => ?_)
  cases c with
  | true => exact hb wh pins s1 σ H1 Q I1 q1
  | false => exact ⟨H1, I1, q1⟩
theorem pw_or (ha : PT X a tA) (hb : PW X (.BoolOp .Or (b :: rest) pos) tB') : PW X (.BoolOp .Or (a :: b :: rest) pos) (tOr tA tB') := by
  intro wh pins s σ H Q I h
  refine isTrue_or (thn (ha pins s σ H _ I h) fun c s1 ⟨H1, I1, q1⟩ => ?_)
  cases c with
  | true => exact ⟨H1, I1, q1⟩
  | false => exact hb wh pins s1 σ H1 Q I1 q1
theorem pt_not (ha : PT X a tA) : PT X (.UnaryOp .Not a pos) (tNot tA) := by
  intro pins s σ H Q I h
  exact isTrue_not (ha pins s σ H (fun c H1 => Q (!c) H1) I h)
/-- .. as values (bools) -/
def tAndV (ta tb : TE) : TE := fun σ H Q => ta σ H fun x H1 => ∃ c, x = .bl c ∧ if c = true then tb σ H1 Q else Q (.bl false) H1
def tOrV (ta tb : TE) : TE := fun σ H Q => ta σ H fun x H1 => ∃ c, x = .bl c ∧ if c = true then Q (.bl true) H1 else tb σ H1 Q
def tNotV (ta : TE) : TE := fun σ H Q => ta σ H fun x H1 => ∃ c, x = .bl c ∧ Q (.bl (!c)) H1
theorem pe_one {op} {t : TE} (h : PE X a t) : PE X (.BoolOp op [a] pos) t := fun pins s σ H Q I hw => BoolOp_one (h pins s σ H Q I hw)
theorem pe_and (ha : PE X a ta) (hb : PE X (.BoolOp .And (b :: rest) pos) tb) : PE X (.BoolOp .And (a :: b :: rest) pos) (tAndV ta tb) := by
  intro pins s σ H Q I h
  refine BoolOp_and (thn (ha pins s σ H _ I h) fun v s1 ⟨x, H1, I1, r1, q1⟩ => ?_)
  obtain ⟨c, rfl, q1⟩ := q1
  cases r1
  refine wpAny_truthy_bool ?_
  cases c with
  | true => exact hb pins s1 σ H1 Q I1 q1
  | false => exact ⟨.bl false, H1, I1, rfl, q1⟩
theorem pe_or (ha : PE X a ta) (hb : PE X (.BoolOp .Or (b :: rest) pos) tb) : PE X (.BoolOp .Or (a :: b :: rest) pos) (tOrV ta tb) := by
  intro pins s σ H Q I h
  refine BoolOp_or (thn (ha pins s σ H _ I h) fun v s1 ⟨x, H1, I1, r1, q1⟩ => ?_)
  obtain ⟨c, rfl, q1⟩ := q1
  cases r1
  refine wpAny_truthy_bool ?_
  cases c with
  | false => exact hb pins s1 σ H1 Q I1 q1
  | true => exact ⟨.bl true, H1, I1, rfl, q1⟩
/-- a if t else b -/
def tIf (t : TT) (ta tb : TE) : TE := fun σ H Q => t σ H fun c H1 => if c = true then ta σ H1 Q else tb σ H1 Q
end
end L2

namespace L2
open PySem PySem.Spec PyProof.Rows

/-! ### a list, a tuple that is read: tracked, frozen, or an object of the module -/
def SqL (K : PySem.W.Frag) (H : Hp) (a : Addr) (xs : List V) : Prop :=
  Rd H a (.lst xs) ∨
    ∃ (o : Obj) (its : Array Value) (n : Nat), K.lookup a = some o ∧ o.cls = .type "list" ∧ o.dict = none ∧ o.data = .seq its n ∧ its.size ≤ sizeLine ∧ Vals xs its.toList
def SqT (K : PySem.W.Frag) (H : Hp) (a : Addr) (xs : List V) : Prop :=
  Rd H a (.tup xs) ∨
    ∃ (o : Obj) (its : Array Value) (n : Nat), K.lookup a = some o ∧ o.cls = .type "tuple" ∧ o.data = .seq its n ∧ its.size ≤ sizeLine ∧ Vals xs its.toList
def absV : Value → Option V
  | .none => some .non
  | .bool b => some (.bl b)
  | .int i _ => some (.int i)
  | .str x _ => some (.str x)
  | .bytes b _ => some (.byt b)
  | .float b _ => some (.flt b)
  | .ref a => some (.ref a)
  | .type n => some (.ty n)
  | _ => none
theorem RelV.abs {x : V} {u : Value} (r : RelV x u) : absV u = some x := by
  cases x with
  | non => cases r; rfl
  | bl _ => cases r; rfl
  | int _ => obtain ⟨t, rfl⟩ := r; rfl
  | str _ => obtain ⟨t, rfl⟩ := r; rfl
  | byt _ => obtain ⟨t, rfl⟩ := r; rfl
  | flt _ => obtain ⟨t, rfl⟩ := r; rfl
  | ref _ => cases r; rfl
  | ty _ => cases r; rfl
theorem RelV.inj {x y : V} {u : Value} (r : RelV x u) (q : RelV y u) : x = y := Option.some.inj (r.abs.symm.trans q.abs)
theorem Vals.inj : ∀ {xs ys : List V} {us : List Value}, Vals xs us → Vals ys us → xs = ys
  | _, _, _, .nil, .nil => rfl
  | _, _, _, .cons r t, .cons r' t' => by rw [r.inj r', Vals.inj t t']
section
variable {X : Cx} {pins : List (Addr × Obj)} {σ : St} {H : Hp} {s : Shared} {a : Addr} {xs ys : List V}
theorem SqL.of {K : PySem.W.Frag} (h : H a = some (.lst xs)) : SqL K H a xs := .inl (.inl h)
theorem SqT.of {K : PySem.W.Frag} (h : H a = some (.tup xs)) : SqT K H a xs := .inl (.inl h)
theorem Inv.list (I : Inv X pins σ H s) (h : SqL X.K H a xs) : ∃ its : List Value, Vals xs its ∧ PlainL s.heap a its.toArray ∧ xs.length ≤ sizeLine := by
  rcases h with h | ⟨o, its, n, hk, hc, hd, hs, hz, r⟩
  · obtain ⟨z, its, n, r, e⟩ := h.ok I.hok
    exact ⟨its, r, ⟨_, n, e, rfl, rfl, rfl⟩, z⟩
  · refine ⟨its.toList, r, ⟨o, n, I.kIn a o hk, hc, hd, by simpa using hs⟩, ?_⟩
    have e := r.length
    simp only [Array.length_toList] at e
    omega
theorem Inv.tuple (I : Inv X pins σ H s) (h : SqT X.K H a xs) : ∃ its : List Value, Vals xs its ∧ IsTup s.heap a its.toArray ∧ xs.length ≤ sizeLine := by
  rcases h with h | ⟨o, its, n, hk, hc, hs, hz, r⟩
  · obtain ⟨z, its, r, p⟩ := h.ok I.hok
    exact ⟨its, r, p, z⟩
  · refine ⟨its.toList, r, ⟨o, I.kIn a o hk, hc, n, by simpa using hs⟩, ?_⟩
    have e := r.length
    simp only [Array.length_toList] at e
    omega
theorem Inv.list_inj (I : Inv X pins σ H s) (h : SqL X.K H a xs) (h' : SqL X.K H a ys) : xs = ys := by
  obtain ⟨its, r, ⟨o, n, e, _, _, d⟩, _⟩ := I.list h
  obtain ⟨its', r', ⟨o', n', e', _, _, d'⟩, _⟩ := I.list h'
  rw [e] at e'; cases e'
  rw [d] at d'
  injection d' with d1 _
  have : its = its' := by simpa using congrArg Array.toList d1
  subst this
  exact r.inj r'
end

/-! ### another wish about exceptions -/
abbrev Cx.wish (X : Cx) (E : Value → Shared → Prop) : Cx := { X with xe := E }
/-- no exception leaves -/
abbrev Cx.nox (X : Cx) : Cx := X.wish fun _ _ => False
theorem Cx.Ok.wish {X : Cx} (ok : X.Ok) (E : Value → Shared → Prop) : (X.wish E).Ok :=
  ⟨ok.mod, ok.kind, ok.glob, ok.blt, ok.above, ok.inj, ok.has, ok.cab, ok.hd, ok.frames, ok.stk, ok.exf, ok.bs, ok.bsz, ok.noex, ok.exfs, ok.funs, ok.frf⟩
theorem Cx.Ok.unwish {X : Cx} {E : Value → Shared → Prop} (ok : (X.wish E).Ok) : X.Ok :=
  ⟨ok.mod, ok.kind, ok.glob, ok.blt, ok.above, ok.inj, ok.has, ok.cab, ok.hd, ok.frames, ok.stk, ok.exf, ok.bs, ok.bsz, ok.noex, ok.exfs, ok.funs, ok.frf⟩
section
variable {X : Cx} {pins : List (Addr × Obj)} {σ : St} {H : Hp} {s : Shared} {E : Value → Shared → Prop}
theorem Inv.wish (I : Inv X pins σ H s) (E : Value → Shared → Prop) : Inv (X.wish E) pins σ H s := ⟨I.ok.wish E, I.os, I.bare, I.base, I.loc, I.cell, I.free, I.freeC, I.pin, I.hok, I.len⟩
theorem Inv.unwish (I : Inv (X.wish E) pins σ H s) : Inv X pins σ H s := ⟨I.ok.unwish, I.os, I.bare, I.base, I.loc, I.cell, I.free, I.freeC, I.pin, I.hok, I.len⟩
theorem SP.unwish {D : Ends} {f : Flow} {s' : Shared} (h : SP (X.wish E) pins D f s') : SP X pins D f s' := by
  cases f with
  | next => obtain ⟨σ', H', I, q⟩ := h; exact ⟨σ', H', I.unwish, q⟩
  | brk => obtain ⟨σ', H', I, q⟩ := h; exact ⟨σ', H', I.unwish, q⟩
  | cont => obtain ⟨σ', H', I, q⟩ := h; exact ⟨σ', H', I.unwish, q⟩
  | ret u => obtain ⟨v, σ', H', I, r, q⟩ := h; exact ⟨v, σ', H', I.unwish, r, q⟩
theorem PSs.nox {st : List Stmt} {t : TS} (h : PSs X.nox st t) : PSs X st t := fun pins s σ H D I hw =>
  wpAny_mono (h pins s σ H D (I.wish _) hw) (fun _ _ q => q.unwish) fun _ _ z => False.elim z
end

/-! ### blocks and small statements -/
section
variable {X : Cx} {st : Stmt} {rest : List Stmt} {t u : TS} {e : Expr} {te : TE} {pos : Pos}
def tNext : TS := fun D σ H => D.nx σ H
def tSeq (t u : TS) : TS := fun D σ H => t { D with nx := u D } σ H
theorem pss_nil : PSs X [] tNext := fun _ _ σ H _ I h => wpAny_execs_nil ⟨σ, H, I, h⟩
theorem pss_cons (h1 : PS X st t) (h2 : PSs X rest u) : PSs X (st :: rest) (tSeq t u) := by
  intro pins s σ H D I h
  refine wpAny_execs_cons (thn (h1 pins s σ H { D with nx := u D } I h) fun f s1 q => ?_)
  cases f with
  | next =>
    obtain ⟨σ', H', I', q⟩ := q
    exact h2 pins s1 σ' H' D I' q
  | ret v => exact q
  | brk => exact q
  | cont => exact q
theorem pss_one (h1 : PS X st t) : PSs X [st] t := by
  intro pins s σ H D I h
  refine wpAny_execs_cons (thn (h1 pins s σ H D I h) fun f s1 q => ?_)
  cases f with
  | next => exact wpAny_execs_nil q
  | ret v => exact q
  | brk => exact q
  | cont => exact q
def tBreak : TS := fun D σ H => D.bk σ H
def tCont : TS := fun D σ H => D.ct σ H
/-- in a def's body nothing is shown -/
theorem Inv.quiet {pins : List (Addr × Obj)} {σ : St} {H : Hp} {s : Shared} (I : Inv X pins σ H s) : interactive X.env = false := by simp [interactive, I.ok.kind]
/-- an expression whose value is dropped -/
def tDrop (te : TE) : TS := fun D σ H => te σ H fun _ H1 => D.nx σ H1
theorem ps_expr (he : PE X e te) (hs : swapsWith e none pos.line X.env = pure false := by rfl) : PS X (.Expr e pos) (tDrop te) := by
  intro pins s σ H D I h
  exact wpAny_Expr_any (thn (he pins s σ H _ I h) fun v s1 ⟨x, H1, I1, r1, q1⟩ => ⟨σ, H1, I1, q1⟩) I.quiet hs
def tRet (te : TE) : TS := fun D σ H => te σ H D.rt
theorem ps_ret (he : PE X e te) : PS X (.Return (some e) pos) (tRet te) := by
  intro pins s σ H D I h
  exact wpAny_Return_some (thn (he pins s σ H _ I h) fun v s1 ⟨x, H1, I1, r1, q1⟩ => ⟨x, σ, H1, I1, r1, q1⟩)
def tRetN : TS := fun D _ H => D.rt .non H
def tIfS (c : TT) (t u : TS) : TS := fun D σ H => c σ H fun b H1 => if b = true then t D σ H1 else u D σ H1
theorem ps_if {c : Expr} {a b : List Stmt} {tc : TT} (hc : PT X c tc) (ha : PSs X a t) (hb : PSs X b u) : PS X (.If c a b pos) (tIfS tc t u) := by
  intro pins s σ H D I h
  refine wpAny_If (thn (hc pins s σ H _ I h) fun d s1 ⟨H1, I1, q1⟩ => ?_)
  cases d with
  | true => exact ha pins s1 σ H1 D I1 q1
  | false => exact hb pins s1 σ H1 D I1 q1
/-- code that the proof never comes to -/
def tNever : TS := fun _ _ _ => False
theorem pss_never {sts : List Stmt} : PSs X sts tNever := fun _ _ _ _ _ _ h => h.elim
end

/-! ### targets -/
abbrev TG := V → St → Hp → (St → Hp → Prop) → Prop
abbrev TGs := List V → St → Hp → (St → Hp → Prop) → Prop
def PG (X : Cx) (target : Expr) (t : TG) : Prop :=
  ∀ (pins : List (Addr × Obj)) (s : Shared) (σ : St) (H : Hp) (v : V) (u : Value) (Q : St → Hp → Prop), Inv X pins σ H s → RelV v u → t v σ H Q →
    wpAny (model X.prog X.w) X.A (assign target X.env u) (fun _ s' => ∃ σ' H', Inv X pins σ' H' s' ∧ Q σ' H') X.xe s
/-- several targets, one after another -/
def PGs (X : Cx) (ts : List Expr) (t : TGs) : Prop :=
  ∀ (pins : List (Addr × Obj)) (s : Shared) (σ : St) (H : Hp) (vs : List V) (us : List Value) (Q : St → Hp → Prop), Inv X pins σ H s → Vals vs us → t vs σ H Q →
    wpAny (model X.prog X.w) X.A (assignInOrder ((assignEach ts X.env).map (·.2)) us) (fun _ s' => ∃ σ' H', Inv X pins σ' H' s' ∧ Q σ' H') X.xe s
/-- o[i] = v, by values -/
abbrev TSet := V → V → V → Hp → (Hp → Prop) → Prop
def PSet (X : Cx) (t : TSet) : Prop :=
  ∀ (pins : List (Addr × Obj)) (s : Shared) (σ : St) (H : Hp) (o i v : V) (ov iv u : Value) (Q : Hp → Prop), Inv X pins σ H s → RelV o ov → RelV i iv → RelV v u → t o i v H Q →
    wpAny (model X.prog X.w) X.A (setItem ov iv u) (fun _ s' => ∃ H', Inv X pins σ H' s' ∧ Q H') X.xe s
/-- a op= b, by values -/
abbrev TIp := V → V → Hp → VK → Prop
def PIp (X : Cx) (op : Operator) (t : TIp) : Prop :=
  ∀ (pins : List (Addr × Obj)) (s : Shared) (σ : St) (H : Hp) (x y : V) (v u : Value) (Q : VK), Inv X pins σ H s → RelV x v → RelV y u → t x y H Q →
    wpAny (model X.prog X.w) X.A (inplaceOp op v u) (EP X pins σ Q) X.xe s
section
variable {X : Cx} {pos : Pos}
def gName (i : Nat) : TG := fun v σ H Q => Q (σ.set i (some v)) H
theorem pg_name {i : Nat} {x : Str} (hN : X.N.Nodup) (hi : X.N[i]? = some x) (hx : Loc X.env.scope x) (hf : X.fn x = true ∨ X.env.scope.names.lookup x = some .local := by first | exact .inl rfl | exact .inr rfl | assumption) : PG X (.Name x pos) (gName i) := by
  intro pins s σ H v u Q I r h
  exact wpAny_assign_Name (store_ok I hN hi hx r (fun s' I' => ⟨_, H, I', h⟩) hf)
def gNil : TGs := fun vs σ H Q => vs = [] ∧ Q σ H
def gCons (t : TG) (u : TGs) : TGs := fun vs σ H Q => ∃ v r, vs = v :: r ∧ t v σ H fun σ' H' => u r σ' H' Q
theorem pgs_nil : PGs X [] gNil := by
  intro pins s σ H vs us Q I r h
  obtain ⟨e, h⟩ := h
  subst e
  cases r
  exact assignInOrder_nil ⟨σ, H, I, h⟩
theorem pgs_cons {e : Expr} {es : List Expr} {t : TG} {u : TGs} (h1 : PG X e t) (h2 : PGs X es u)
    (hs : (assignEach (e :: es) X.env).map (·.2) = assign e X.env :: (assignEach es X.env).map (·.2) := by rfl) : PGs X (e :: es) (gCons t u) := by
  intro pins s σ H vs us Q I r h
  obtain ⟨v, vr, e1, h⟩ := h
  subst e1
  cases r with
  | cons r rr =>
    rw [hs]
    refine assignInOrder_cons (thn (h1 pins s σ H _ _ _ I r h) fun _ s1 ⟨σ1, H1, I1, q1⟩ => ?_)
    exact h2 pins s1 σ1 H1 _ _ Q I1 rr q1
/-- (a, b, ..) = a tuple of that length -/
def gTup (K : PySem.W.Frag) (n : Nat) (t : TGs) : TG := fun v σ H Q => ∃ a xs, v = .ref a ∧ SqT K H a xs ∧ xs.length = n ∧ t xs σ H Q
theorem pg_tup {es : List Expr} {k : Nat} {t : TGs} {n : Nat} (hc : X.calm = true) (h : PGs X es t)
    (hn : (assignEach es X.env).length = n := by rfl) (hst : (assignEach es X.env).findIdx? (·.1) = none := by rfl) : PG X (.Tuple es k pos) (gTup X.K n t) := by
  intro pins s σ H v u Q I r hw
  obtain ⟨a, xs, e1, hq, hl, hw⟩ := hw
  subst e1
  cases r
  obtain ⟨its, rv, ht, hz⟩ := I.tuple hq
  refine assign_Tuple_tuple (I.ok.hd hc) ht (by simp [hn, ← hl, rv.length]) hst fun h' hx => ?_
  have I1 : Inv X pins σ H { s with heap := h' } := I.kept (t' := s.toks) fun b o e => hx b o (Nat.ne_of_lt (Heap.lt_size e)) e
  exact h pins _ σ H xs _ Q I1 (by simpa using rv) hw
/-- o[i] = .. -/
def gSub (to ti : TE) (t : TSet) : TG := fun v σ H Q => to σ H fun o H1 => ti σ H1 fun i H2 => t o i v H2 fun H3 => Q σ H3
theorem pg_sub {o i : Expr} {to ti : TE} {t : TSet} (ho : PE X o to) (hi : PE X i ti) (hs : PSet X t)
    (ha : ∀ v, assign (.Subscript o i pos) X.env v = (do
      let ov ← holding [v] (eval o X.env)
      let iv ← holding [v, ov] (eval i X.env)
      standAt pos
      holding [v, ov, iv] (setItem ov iv v)
      release [v, ov, iv] []) := by intro _; rfl) : PG X (.Subscript o i pos) (gSub to ti t) := by
  intro pins s σ H v u Q I r h
  rw [ha]
  refine wpAny_bind (wpAny_holding (thn (ho pins s σ H _ I h) fun ov s1 ⟨x, H1, I1, r1, q1⟩ => ?_))
  refine wpAny_bind (wpAny_holding (thn (hi pins s1 σ H1 _ I1 q1) fun iv s2 ⟨y, H2, I2, r2, q2⟩ => ?_))
  refine wpAny_bind (wpAny_standAt (wpAny_bind (wpAny_holding (thn (hs pins s2 σ H2 x y v ov iv u _ I2 r1 r2 r q2) fun _ s3 ⟨H3, I3, q3⟩ => ?_))))
  exact wpAny_release ⟨σ, H3, I3, q3⟩
/-- target = value -/
def tAsg (te : TE) (g : TG) : TS := fun D σ H => te σ H fun x H1 => g x σ H1 D.nx
theorem ps_asg {tg e : Expr} {te : TE} {g : TG} (he : PE X e te) (hg : PG X tg g) (hs : swapsWithSole [tg] e pos.line X.env = pure false := by rfl) (hw : swappedStores [tg] e X.env = pure none := by rfl)
    (h1 : (assignEach [tg] X.env).map (·.2) = [assign tg X.env] := by rfl) : PS X (.Assign [tg] e pos) (tAsg te g) := by
  intro pins s σ H D I h
  refine wpAny_Assign_stores (thn (he pins s σ H _ I h) fun v s1 ⟨x, H1, I1, r1, q1⟩ => ?_) hs hw
  rw [h1]
  exact thn (hg pins s1 σ H1 x v _ I1 r1 q1) fun _ s2 q => q
/-- name = value -/
theorem ps_set {i : Nat} {x : Str} {e : Expr} {te : TE} {pos' : Pos} (hN : X.N.Nodup) (hi : X.N[i]? = some x) (hx : Loc X.env.scope x) (he : PE X e te) (hs : swapsWith e (some (.Name x pos')) pos.line X.env = pure false := by rfl) (hf : X.fn x = true ∨ X.env.scope.names.lookup x = some .local := by first | exact .inl rfl | exact .inr rfl | assumption) :
    PS X (.Assign [.Name x pos'] e pos) (tAsg te (gName i)) := by
  intro pins s σ H D I h
  refine wpAny_Assign_Name (thn (he pins s σ H _ I h) fun v s1 ⟨y, H1, I1, r1, q1⟩ => ?_) hs
  exact store_ok I1 hN hi hx r1 (fun s2 I2 => ⟨_, H1, I2, q1⟩) hf
/-- a, b = x, y with plain local names: stored from the right; the pair itself is not tracked (the opening rows as in PyProof/Rows/TupAssign.lean:23) -/
def tPar (i j : Nat) (ta : TA) : TS := fun D σ H => ta σ H fun vs H1 => ∃ v w, vs = [v, w] ∧ D.nx ((σ.set i (some v)).set j (some w)) H1
/-- name op= e -/
def tAug (i : Nat) (te : TE) (ti : TIp) : TS := fun D σ H => ∃ x, σ[i]? = some (some x) ∧ te σ H fun y H1 => ti x y H1 fun z H2 => D.nx (σ.set i (some z)) H2
/-- o[i] op= e -/
def tAugS (to ti te : TE) (tget : V → V → Hp → VK → Prop) (tip : TIp) (tset : TSet) : TS := fun D σ H => to σ H fun o H1 => ti σ H1 fun i H2 => tget o i H2 fun x H3 => te σ H3 fun y H4 => tip x y H4 fun z H5 => tset o i z H5 fun H6 => D.nx σ H6
/-- o[i], by values -/
def PGet (X : Cx) (t : V → V → Hp → VK → Prop) : Prop :=
  ∀ (pins : List (Addr × Obj)) (s : Shared) (σ : St) (H : Hp) (o i : V) (ov iv : Value) (Q : VK), Inv X pins σ H s → RelV o ov → RelV i iv → t o i H Q →
    wpAny (model X.prog X.w) X.A (getItem ov iv) (EP X pins σ Q) X.xe s
/-- ints -/
def ipI (f : Int → Int → Int) : TIp := fun x y H Q => ∃ i j, x = .int i ∧ y = .int j ∧ Q (.int (f i j)) H
end

/-! ### while -/
section
variable {X : Cx} {pos : Pos}
/-- the invariant W with its measure -/
def tWhile (c : TT) (tb : TS) : TS := fun D σ H => ∃ W : Nat → St → Hp → Prop, (∃ m, W m σ H) ∧ ∀ m σ H, W m σ H →
  c σ H fun b H1 => if b = true then ∃ N : St → Hp → Prop, (∀ σ' H', N σ' H' → ∃ m', m' < m ∧ W m' σ' H') ∧ tb { D with nx := N, ct := N, bk := D.nx } σ H1 else D.nx σ H1
end

/-! ### what a loop or a comprehension walks -/
/-- at turn i: it yields x (the heap may grow), or it stops -/
structure It where
  go : Nat → Hp → Prop
  yld : Nat → Hp → V → Hp → Prop
  stop : Nat → Hp → Prop
/-- the iterator's own objects may turn: they are not the frame's, not pinned, younger than the entry (or a comprehension's own) -/
def FpOk (X : Cx) (pins : List (Addr × Obj)) (H : Hp) (b : Addr) : Prop :=
  H b = none ∧ b ≠ X.env.locals ∧ b ∉ X.fs ∧ (b ∈ X.ex ∨ X.s₀.heap.objs.size ≤ b) ∧ (∀ x c, X.env.cells.lookup x = some c → c ≠ b) ∧ ∀ p ∈ X.pn ++ pins, p.1 ≠ b
theorem Inv.fpOk {X : Cx} {pins : List (Addr × Obj)} {σ : St} {H H' : Hp} {s : Shared} {b : Addr} (I : Inv X pins σ H s) (hb : s.heap.objs.size ≤ b) (hn : H' b = none) : FpOk X pins H' b := by
  refine ⟨hn, Nat.ne_of_gt (Nat.lt_of_lt_of_le I.lt hb), I.nofs hb, .inr (Nat.le_trans I.sz hb), fun x c e z => ?_, fun p hp z => ?_⟩
  · obtain ⟨v, q⟩ := I.cell x c e
    exact absurd (Nat.lt_of_lt_of_le q.lt (by rw [z]; exact hb)) (Nat.lt_irrefl _)
  · exact absurd (Nat.lt_of_lt_of_le (Heap.lt_size (I.pin p hp).1) (by rw [z]; exact hb)) (Nat.lt_irrefl _)
structure Turn (P : Program) (w : World) (K : PySem.W.Frag) (tg : Expr) (J : It) (fp : List Addr) (it : Addr) (tn : Nat → Heap → Prop) : Prop where
  mem : it ∈ fp
  obj : ∀ i h, tn i h → ∀ b ∈ fp, ∃ o, h.get? b = some o ∧ ∀ v, o.data ≠ .cell v
  keep : ∀ i h h', tn i h → (∀ b ∈ fp, ∀ o, h.get? b = some o → h'.get? b = some o) → tn i h'
  item : ∀ (X : Cx), X.prog = P → X.w = w → X.K = K → X.calm = true → ∀ (i : Nat) (pins : List (Addr × Obj)) (s : Shared) (σ : St) (H : Hp) (E : Value → Shared → Prop), Inv X pins σ H s → (∀ b ∈ fp, FpOk X pins H b) → tn i s.heap → J.go i H →
    wpAny (model P w) X.A (pyNext (.ref it)) (fun r s1 => ∃ u, r = some u ∧
      wpAny (model P w) X.A (letOwnedTupleGo tg (.ref it) u) (fun _ s2 => ∃ x H', Inv X pins σ H' s2 ∧ RelV x u ∧ J.yld i H x H' ∧ tn (i + 1) s2.heap ∧ ∀ b ∈ fp, H' b = none) E s1) E s
  done : ∀ (X : Cx), X.prog = P → X.w = w → X.K = K → X.calm = true → ∀ (i : Nat) (pins : List (Addr × Obj)) (s : Shared) (σ : St) (H : Hp) (E : Value → Shared → Prop), Inv X pins σ H s → (∀ b ∈ fp, FpOk X pins H b) → tn i s.heap → J.stop i H →
    wpAny (model P w) X.A (pyNext (.ref it)) (fun r s1 => r = none ∧ Inv X pins σ H s1) E s
  self : ∀ (A : Around) (i : Nat) (s : Shared) (Q : Value → Shared → Prop) (E : Value → Shared → Prop), tn i s.heap → Q (.ref it) s → wpAny (model P w) A (pyIter (.ref it)) Q E s
abbrev TI := St → Hp → (It → Hp → Prop) → Prop
/-- an iterator has come -/
def PIE (X : Cx) (pins : List (Addr × Obj)) (σ : St) (tg : Expr) (R : It → Hp → Prop) (itv : Value) (s2 : Shared) : Prop :=
  ∃ (it : Addr) (fp : List Addr) (tn : Nat → Heap → Prop) (J : It) (H' : Hp), itv = .ref it ∧ Inv X pins σ H' s2 ∧ Turn X.prog X.w X.K tg J fp it tn ∧ tn 0 s2.heap ∧ (∀ b ∈ fp, FpOk X pins H' b) ∧ R J H'
def PI (X : Cx) (tg iter : Expr) (wi : TI) : Prop :=
  ∀ (pins : List (Addr × Obj)) (s : Shared) (σ : St) (H : Hp) (R : It → Hp → Prop), Inv X pins σ H s → wi σ H R →
    wpAny (model X.prog X.w) X.A (eval iter X.env) (fun v s1 => wpAny (model X.prog X.w) X.A (pyIter v) (PIE X pins σ tg R) X.xe s1) X.xe s

/-- the step ahead of the store is nothing for an iterator that keeps no tuple -/
theorem go_of {M : Model} {A : Around} {E : Value → Shared → Prop} {s : Shared} {tg : Expr} {it : Addr} {u : Value} {o : Obj} {n : String} {vs : Array Value} {Q : Unit → Shared → Prop} (ho : s.heap.get? it = some o) (hc : o.cls = .type n) (hd : o.data = .fields vs)
    (hn : ["enumerate", "zip", "dict_itemiterator", "dict_reverseitemiterator", "odict_iterator", "itertools.zip_longest", "itertools.pairwise"].contains n = false) (hQ : Q () s) : wpAny M A (letOwnedTupleGo tg (.ref it) u) Q E s := by
  unfold letOwnedTupleGo
  cases tg <;> first
    | exact wpAny_pure hQ
    | (cases u <;> first
        | exact wpAny_pure hQ
        | (refine wpAny_bind (wpAny_load ho ?_)
           rw [hc, hd]
           show wpAny M A (if (["enumerate", "zip", "dict_itemiterator", "dict_reverseitemiterator", "odict_iterator", "itertools.zip_longest", "itertools.pairwise"].contains n && vs[0]? == some (rawInt _)) = true then _ else _) Q E s
           rw [if_neg (by intro h; rw [hn, Bool.false_and] at h; cases h)]
           exact wpAny_pure hQ))

/-- the list at a, as it stands at each turn (a loop may append to it) -/
def Itl (K : PySem.W.Frag) (a : Addr) : It :=
  ⟨fun i H => ∃ xs x, SqL K H a xs ∧ xs[i]? = some x, fun i H x H' => H' = H ∧ ∀ xs, SqL K H a xs → xs[i]? = some x, fun i H => ∃ xs, SqL K H a xs ∧ xs.length ≤ i⟩
def Itt (K : PySem.W.Frag) (a : Addr) : It :=
  ⟨fun i H => ∃ xs x, SqT K H a xs ∧ xs[i]? = some x, fun i H x H' => H' = H ∧ ∀ xs, SqT K H a xs → xs[i]? = some x, fun i H => ∃ xs, SqT K H a xs ∧ xs.length ≤ i⟩
/-- lo, lo + 1, .. (n of them) -/
def Itr (lo : Int) (n : Nat) : It := ⟨fun i _ => i < n, fun i H x H' => H' = H ∧ x = .int (lo + i), fun i _ => n ≤ i⟩
theorem turn_range {P : Program} {w : World} {K : PySem.W.Frag} {tg : Expr} (it : Addr) (lo : Int) (n : Nat) : Turn P w K tg (Itr lo n) [it] it (fun i h => IsRangeIter h it (lo + (i : Nat) * 1) ((n : Int) - (i : Nat)) 1) where
  mem := by simp
  obj := fun i h st b hb => by
    have e : b = it := by simpa using hb
    subst e
    exact ⟨_, st, fun v z => by
      have z' : Data.fields _ = Data.cell v := z
      cases z'⟩
  keep := fun i h h' st k => k it (by simp) _ st
  item := by
    intro X hP hw hK hc i pins s σ H E I hf st hg
    subst hP hw hK
    obtain ⟨f0, f1, f2, f3, f4, f5⟩ := hf it (by simp)
    have W := Walks.range (prog := X.prog) (w := X.w) (I.ok.hd hc) it lo 1 n
    refine W.item i s _ _ hg st fun v h' tk hv st' kk => ?_
    obtain ⟨t, rfl⟩ := hv
    have I1 : Inv X pins σ H { s with heap := h', toks := tk } := I.turned (fun b o hb e => kk b o (by simpa using hb) e) f0 f1 f3 f4 f5
    refine ⟨_, rfl, go_of (s := { s with heap := h', toks := tk }) (n := "range_iterator") st' rfl rfl (by decide) ⟨.int (lo + i), H, I1, ⟨t, ?_⟩, ⟨rfl, rfl⟩, st', fun b hb => (hf b hb).1⟩⟩
    rw [Int.mul_one]
  done := by
    intro X hP hw hK hc i pins s σ H E I hf st hg
    subst hP hw hK
    obtain ⟨f0, f1, f2, f3, f4, f5⟩ := hf it (by simp)
    exact wpAny_pyNext_range_end (I.ok.hd hc) st (by have : n ≤ i := hg; omega) fun h' eb => ⟨rfl, I.turned (t' := s.toks) (fun b o hb e => eb b o hb e) f0 f1 f3 f4 f5⟩
  self := fun _ _ _ _ _ st h => wpAny_pyIter_rangeiter st h
end L2

namespace L2
open PySem PySem.Spec PyProof.Rows
section
variable {X : Cx} {tg : Expr}
def iList (K : PySem.W.Frag) (tl : TE) : TI := fun σ H R => tl σ H fun x H1 => ∃ a, x = .ref a ∧ (∃ xs, SqL K H1 a xs) ∧ R (Itl K a) H1
def iTup (K : PySem.W.Frag) (tl : TE) : TI := fun σ H R => tl σ H fun x H1 => ∃ a, x = .ref a ∧ (∃ xs, SqT K H1 a xs) ∧ R (Itt K a) H1
/-- a range object just made, walked -/
theorem range_it {pins : List (Addr × Obj)} {σ : St} {H : Hp} {s : Shared} {R : It → Hp → Prop} {E : Value → Shared → Prop} {lo hi : Int} {t u v : Tok} {tk : Nat} (I : Inv X pins σ H s) (h1 : -(2 ^ 62) ≤ lo) (h2 : lo < 2 ^ 62) (h3 : -(2 ^ 62) ≤ hi) (h4 : hi < 2 ^ 62)
    (q : R (Itr lo (hi - lo).toNat) H) : wpAny (model X.prog X.w) X.A (pyIter (.ref s.heap.objs.size)) (PIE X pins σ tg R) E { s with heap := s.heap.push { cls := .type "range", data := .fields #[.int lo t, .int hi u, .int 1 v] }, toks := tk } := by
  refine wpAny_pyIter_range (IsRange.new ..) (small_one h1 h2 h3 h4) ?_
  have I1 : Inv X pins σ H { s with heap := s.heap.push { cls := .type "range", data := .fields #[.int lo t, .int hi u, .int 1 v] }, toks := tk } := I.kept fun b o e => Heap.get?_push_of_some _ e
  refine ⟨(s.heap.push { cls := .type "range", data := .fields #[.int lo t, .int hi u, .int 1 v] }).objs.size, [(s.heap.push { cls := .type "range", data := .fields #[.int lo t, .int hi u, .int 1 v] }).objs.size], _, _, H, rfl,
    I1.kept (t' := tk) fun b o e => Heap.get?_push_of_some _ e, turn_range _ lo (hi - lo).toNat, ?_, fun b hb => ?_, q⟩
  · have e1 : lo + ((0 : Nat) : Int) * 1 = lo := by simp
    have e2 : (((hi - lo).toNat : Nat) : Int) - ((0 : Nat) : Int) = Builtin.Range.rangeSize lo hi 1 := by rw [rangeSize_one]; split <;> omega
    show IsRangeIter _ _ (lo + ((0 : Nat) : Int) * 1) ((((hi - lo).toNat : Nat) : Int) - ((0 : Nat) : Int)) 1
    rw [e1, e2]
    exact Heap.get?_push_size _ rfl
  · have e : b = (s.heap.push { cls := .type "range", data := .fields #[.int lo t, .int hi u, .int 1 v] }).objs.size := by simpa using hb
    subst e
    exact I1.fpOk (Nat.le_refl _) (I1.hok.fresh (Nat.le_refl _))
def iRng1 (ta : TA) : TI := fun σ H R => ta σ H fun vs H1 => ∃ j : Int, vs = [.int j] ∧ -(2 ^ 62) ≤ j ∧ j < 2 ^ 62 ∧ R (Itr 0 j.toNat) H1
def iRng2 (ta : TA) : TI := fun σ H R => ta σ H fun vs H1 => ∃ i j : Int, vs = [.int i, .int j] ∧ (-(2 ^ 62) ≤ i ∧ i < 2 ^ 62 ∧ -(2 ^ 62) ≤ j ∧ j < 2 ^ 62) ∧ R (Itr i (j - i).toNat) H1
theorem pi_range1 {a : Expr} {ta : TA} {p pos : Pos} (hg : Gl X "range") (hm : X.mg "range" = none) (ha : PA X [a] ta) (hs : starEach [a] X.env = [(false, eval a X.env)] := by rfl) : PI X tg (.Call (.Name "range" p) [a] [] pos) (iRng1 ta) := by
  intro pins s σ H R I h
  refine Call_ (ld_blt I hg hm boot_range (PyProof.Rows.callWith_type1 (thn (ha pos pins s σ H _ I h) fun us s1 ⟨vs, H1, I1, r1, q1⟩ => ?_) hs rfl))
  obtain ⟨j, e, q1, q2, q⟩ := q1
  subst e
  cases r1 with
  | cons r rr =>
    cases rr
    obtain ⟨t, rfl⟩ := r
    exact call_range_1 (range_it I1 (by omega) (by omega) q1 q2 (by simpa using q))
theorem pi_range2 {a b : Expr} {ta : TA} {p pos : Pos} (hg : Gl X "range") (hm : X.mg "range" = none) (ha : PA X [a, b] ta) (hs : starEach [a, b] X.env = [(false, eval a X.env), (false, eval b X.env)] := by rfl) (hs2 : starEach [b] X.env = [(false, eval b X.env)] := by rfl) :
    PI X tg (.Call (.Name "range" p) [a, b] [] pos) (iRng2 ta) := by
  intro pins s σ H R I h
  refine Call_ (ld_blt I hg hm boot_range (PyProof.Rows.callWith_type1 (thn (ha pos pins s σ H _ I h) fun us s1 ⟨vs, H1, I1, r1, q1⟩ => ?_) (by rw [hs, hs2]) (by rw [hs2]; rfl)))
  obtain ⟨i, j, e, ⟨q1, q2, q3, q4⟩, q⟩ := q1
  subst e
  cases r1 with
  | cons r rr =>
    cases rr with
    | cons r' rr =>
      cases rr
      obtain ⟨t, rfl⟩ := r
      obtain ⟨t', rfl⟩ := r'
      exact call_range_2 (range_it I1 q1 q2 q3 q4 q)

/-! ### for -/
/-- W: the invariant by the turn and a measure; N: what the body is to reach -/
def tFor (wi : TI) (g : TG) (tb : TS) : TS := fun D σ H => wi σ H fun J H1 => ∃ W : Nat → Nat → St → Hp → Prop, (∃ m, W 0 m σ H1) ∧ ∀ i m σ H, W i m σ H →
  (J.stop i H ∧ D.nx σ H) ∨ (J.go i H ∧ ∃ N : St → Hp → Prop, (∀ σ' H', N σ' H' → ∃ m', m' < m ∧ W (i + 1) m' σ' H') ∧ ∀ x H', J.yld i H x H' → g x σ H' fun σ2 H2 => tb { D with nx := N, ct := N, bk := D.nx } σ2 H2)
/-- the records at fp as they stand -/
def pinsAt (fp : List Addr) (h : Heap) : List (Addr × Obj) := fp.filterMap fun b => (h.get? b).map fun o => (b, o)
theorem mem_pinsAt {fp : List Addr} {h : Heap} {b : Addr} {o : Obj} (hb : b ∈ fp) (e : h.get? b = some o) : (b, o) ∈ pinsAt fp h := List.mem_filterMap.mpr ⟨b, hb, by rw [e]; rfl⟩
theorem of_pinsAt {fp : List Addr} {h : Heap} {p : Addr × Obj} (hp : p ∈ pinsAt fp h) : p.1 ∈ fp ∧ h.get? p.1 = some p.2 := by
  obtain ⟨b, hb, e⟩ := List.mem_filterMap.mp hp
  cases q : h.get? b with
  | none => rw [q] at e; cases e
  | some o =>
    rw [q] at e
    have e' : (b, o) = p := Option.some.inj e
    subst e'
    exact ⟨hb, q⟩
theorem Inv.pinned {pins : List (Addr × Obj)} {σ : St} {H : Hp} {s : Shared} {fp : List Addr} (I : Inv X pins σ H s) (hf : ∀ b ∈ fp, FpOk X pins H b) (ho : ∀ b ∈ fp, ∃ o, s.heap.get? b = some o ∧ ∀ v, o.data ≠ .cell v) : Inv X (pins ++ pinsAt fp s.heap) σ H s :=
  I.pins_of fun p hp => (List.mem_append.mp hp).elim (fun z => I.pin p (List.mem_append_right _ z)) fun z => by
    obtain ⟨hb, e⟩ := of_pinsAt z
    obtain ⟨f0, f1, f2, _⟩ := hf p.1 hb
    obtain ⟨o, e', d⟩ := ho p.1 hb
    rw [e] at e'; cases e'
    exact ⟨e, f0, f1, f2, d⟩
theorem Inv.unpinned {pins pl : List (Addr × Obj)} {σ : St} {H : Hp} {s : Shared} (I : Inv X (pins ++ pl) σ H s) : Inv X pins σ H s := I.pins_of fun p hp => I.pin p (List.mem_append_right _ (List.mem_append_left _ hp))
theorem ps_for {iter : Expr} {body : List Stmt} {wi : TI} {g : TG} {tb : TS} {pos : Pos} (hp : PassesOwn (model X.prog X.w) X.A X.env X.xe) (hc : X.calm = true) (hi : PI X tg iter wi) (hg : PG X tg g) (hb : PSs X body tb)
    (hs : ∀ x, foldedSetIterable iter X.env x = pure x := by intro _; rfl) : PS X (.For tg iter body [] pos) (tFor wi g tb) := by
  intro pins s σ H D I h
  refine wpAny_For (thn (hi pins s σ H _ I h) fun v s1 h1 => thn h1 fun itv s2 h2 => ?_) hs
  obtain ⟨it, fp, tn, J, H2, e, I2, T, st2, f2, W, ⟨m0, w0⟩, turn⟩ := h2
  subst e
  -- what stays true of the iterator's objects through the loop
  have stat : ∀ {H' : Hp}, (∀ b ∈ fp, H' b = none) → ∀ b ∈ fp, FpOk X pins H' b := fun hn b hb => ⟨hn b hb, (f2 b hb).2⟩
  refine codeAny_forLoop_any (fun n s' => ∃ i σ' H', Inv X pins σ' H' s' ∧ tn i s'.heap ∧ (∀ b ∈ fp, H' b = none) ∧ W i n σ' H') ?_ m0 ⟨0, σ, H2, I2, st2, fun b hb => (f2 b hb).1, w0⟩
  rintro n s3 ⟨i, σ3, H3, I3, st3, fr3, w3⟩
  rcases turn i n σ3 H3 w3 with ⟨stop, qn⟩ | ⟨go, N, hN, step⟩
  · refine wpAny_passesOwn hp (thn (T.done X rfl rfl rfl hc i pins s3 σ3 H3 X.xe I3 (stat fr3) st3 stop) fun r s4 ⟨hr, I4⟩ => ?_)
    subst hr
    exact wpAny_execs_nil ⟨σ3, H3, I4, qn⟩
  · refine wpAny_passesOwn hp (thn (T.item X rfl rfl rfl hc i pins s3 σ3 H3 X.xe I3 (stat fr3) st3 go) fun r s4 ⟨u, hr, h4⟩ => ?_)
    subst hr
    refine wpAny_passesOwn hp (thn h4 fun _ s5 ⟨x, H5, I5, r5, y5, st5, fr5⟩ => ?_)
    have I5' := I5.pinned (stat fr5) (T.obj _ _ st5)
    refine wpAny_passesOwn hp (thn (hg _ s5 σ3 H5 x u _ I5' r5 (step x H5 y5)) fun _ s6 ⟨σ6, H6, I6, q6⟩ => ?_)
    refine wpAny_passesOwn hp (thn (hb _ s6 σ6 H6 _ I6 q6) fun f s7 q7 => ?_)
    have again : ∀ {σ7 : St} {H7 : Hp}, Inv X (pins ++ pinsAt fp s5.heap) σ7 H7 s7 → N σ7 H7 → ∃ m, m < n ∧ ∃ i σ' H', Inv X pins σ' H' s7 ∧ tn i s7.heap ∧ (∀ b ∈ fp, H' b = none) ∧ W i m σ' H' := fun {σ7 H7} I7 n7 => by
      obtain ⟨m', hm, w7⟩ := hN σ7 H7 n7
      refine ⟨m', hm, i + 1, σ7, H7, I7.unpinned, T.keep _ _ _ st5 fun b hb o e => (I7.pin (b, o) (List.mem_append_right _ (List.mem_append_right _ (mem_pinsAt hb e)))).1, fun b hb => ?_, w7⟩
      obtain ⟨o, e, d⟩ := T.obj _ _ st5 b hb
      exact (I7.pin (b, o) (List.mem_append_right _ (List.mem_append_right _ (mem_pinsAt hb e)))).2.1
    cases f with
    | next => obtain ⟨σ7, H7, I7, n7⟩ := q7; exact again I7 n7
    | cont => obtain ⟨σ7, H7, I7, n7⟩ := q7; exact again I7 n7
    | brk => obtain ⟨σ7, H7, I7, q7⟩ := q7; exact ⟨σ7, H7, I7.unpinned, q7⟩
    | ret v => obtain ⟨x7, σ7, H7, I7, r7, q7⟩ := q7; exact ⟨x7, σ7, H7, I7.unpinned, r7, q7⟩
end

/-! ### the forms one uses -/
theorem for_range {lo : Int} {n : Nat} {g : TG} {tb : TS} {D : Ends} {σ : St} {H : Hp} (Pv : Nat → St → Hp → Prop) (h0 : Pv 0 σ H)
    (hs : ∀ i σ H, i < n → Pv i σ H → g (.int (lo + i)) σ H fun σ2 H2 => tb { D with nx := Pv (i + 1), ct := Pv (i + 1), bk := D.nx } σ2 H2) (hd : ∀ σ H, Pv n σ H → D.nx σ H) :
    ∃ W : Nat → Nat → St → Hp → Prop, (∃ m, W 0 m σ H) ∧ ∀ i m σ H, W i m σ H →
      ((Itr lo n).stop i H ∧ D.nx σ H) ∨ ((Itr lo n).go i H ∧ ∃ N : St → Hp → Prop, (∀ σ' H', N σ' H' → ∃ m', m' < m ∧ W (i + 1) m' σ' H') ∧ ∀ x H', (Itr lo n).yld i H x H' → g x σ H' fun σ2 H2 => tb { D with nx := N, ct := N, bk := D.nx } σ2 H2) := by
  refine ⟨fun i m σ H => m = n - i ∧ i ≤ n ∧ Pv i σ H, ⟨n, by simp, Nat.zero_le _, h0⟩, ?_⟩
  rintro i m σ H ⟨rfl, hi, p⟩
  by_cases hlt : i < n
  · refine .inr ⟨hlt, Pv (i + 1), fun σ' H' p' => ⟨n - (i + 1), by omega, rfl, hlt, p'⟩, fun x H' y => ?_⟩
    obtain ⟨e, y⟩ := y
    subst e y
    exact hs i σ _ hlt p
  · have e : i = n := by omega
    subst e
    exact .inl ⟨Nat.le_refl _, hd σ H p⟩
end L2

namespace L2
open PySem PySem.Spec PyProof.Rows

abbrev R2 := V → V → Hp → VK → Prop
/-- a two-place operation on values: f is binaryOp op, inplaceOp op or compareOp op -/
def OpR (X : Cx) (f : Value → Value → Sem Value) (r : R2) : Prop :=
  ∀ (pins : List (Addr × Obj)) (s : Shared) (σ : St) (H : Hp) (x y : V) (v u : Value) (Q : VK), Inv X pins σ H s → RelV x v → RelV y u → r x y H Q →
    wpAny (model X.prog X.w) X.A (f v u) (EP X pins σ Q) X.xe s
/-- a one-place operation -/
def UnR (X : Cx) (f : Value → Sem Value) (r : V → Hp → VK → Prop) : Prop :=
  ∀ (pins : List (Addr × Obj)) (s : Shared) (σ : St) (H : Hp) (x : V) (v : Value) (Q : VK), Inv X pins σ H s → RelV x v → r x H Q →
    wpAny (model X.prog X.w) X.A (f v) (EP X pins σ Q) X.xe s
/-- a call of a value that is known (a builtin, a type) with values -/
def CallR (X : Cx) (f : Value) (r : List V → Hp → VK → Prop) : Prop :=
  ∀ (pins : List (Addr × Obj)) (s : Shared) (σ : St) (H : Hp) (xs : List V) (us : List Value) (Q : VK), Inv X pins σ H s → Vals xs us → r xs H Q →
    wpAny (model X.prog X.w) X.A (call f us) (EP X pins σ Q) X.xe s
/-- a value's truth -/
def TruR (X : Cx) (r : V → Hp → (Bool → Hp → Prop) → Prop) : Prop :=
  ∀ (pins : List (Addr × Obj)) (s : Shared) (σ : St) (H : Hp) (x : V) (v : Value) (Q : Bool → Hp → Prop), Inv X pins σ H s → RelV x v → r x H Q →
    wpAny (model X.prog X.w) X.A (truthy v) (TP X pins σ Q) X.xe s

def tOp (r : R2) (ta tb : TE) : TE := fun σ H Q => ta σ H fun x H1 => tb σ H1 fun y H2 => r x y H2 Q
def tUn (r : V → Hp → VK → Prop) (ta : TE) : TE := fun σ H Q => ta σ H fun x H1 => r x H1 Q
/-- ints in, under C, and a value out -/
def rI (C : Int → Int → Prop) (g : Int → Int → V) : R2 := fun x y H Q => ∃ i j, x = .int i ∧ y = .int j ∧ C i j ∧ Q (g i j) H
def rI0 (g : Int → Int → V) : R2 := fun x y H Q => ∃ i j, x = .int i ∧ y = .int j ∧ Q (g i j) H
def rU (g : Int → V) : V → Hp → VK → Prop := fun x H Q => ∃ i, x = .int i ∧ Q (g i) H

section
variable {X : Cx} {a b c : Expr} {ta tb tc : TE} {pos : Pos}

theorem binT (ha : PE X a ta) (hb : PE X b tb) {pins : List (Addr × Obj)} {s : Shared} {σ : St} {H : Hp} {R : V → V → Hp → Prop} (I : Inv X pins σ H s)
    (h : ta σ H fun x H1 => tb σ H1 fun y H2 => R x y H2) {Q : Value → Shared → Prop} {f : Value → Value → Sem Value}
    (hf : ∀ v u s2 x y H2, Inv X pins σ H2 s2 → RelV x v → RelV y u → R x y H2 → wpAny (model X.prog X.w) X.A (f v u) Q X.xe s2) :
    wpAny (model X.prog X.w) X.A (eval a X.env) (fun v s₁ => wpAny (model X.prog X.w) X.A (eval b X.env) (fun u s₂ => wpAny (model X.prog X.w) X.A (f v u) Q X.xe s₂) X.xe s₁) X.xe s := by
  refine thn (ha pins s σ H _ I h) fun v s1 ⟨x, H1, I1, r1, q1⟩ => ?_
  refine thn (hb pins s1 σ H1 _ I1 q1) fun u s2 ⟨y, H2, I2, r2, q2⟩ => ?_
  exact hf v u s2 x y H2 I2 r1 r2 q2

theorem pe_op {op : Operator} {r : R2} (ho : OpR X (binaryOp op) r) (ha : PE X a ta) (hb : PE X b tb) : PE X (.BinOp a op b pos) (tOp r ta tb) := by
  intro pins s σ H Q I h
  exact wpAny_BinOp (binT ha hb I h fun v u s2 x y H2 I2 rx ry q => ho pins s2 σ H2 x y v u Q I2 rx ry q)
theorem pe_un {op : UnaryOp} {r : V → Hp → VK → Prop} (ho : UnR X (unaryOp op) r) (ha : PE X a ta) : PE X (.UnaryOp op a pos) (tUn r ta) := by
  intro pins s σ H Q I h
  exact UnaryOp_ (thn (ha pins s σ H _ I h) fun v s1 ⟨x, H1, I1, r1, q1⟩ => ho pins s1 σ H1 x v Q I1 r1 q1)

/-! ### ints -/
theorem opI {f : Value → Value → Sem Value} {C : Int → Int → Prop} {g : Int → Int → Int}
    (rule : ∀ (i j : Int) (t u : Tok) (s : Shared) (Q : Value → Shared → Prop) (E : Value → Shared → Prop), C i j → Q (.int (g i j) s.toks) { s with toks := s.toks + 1 } → wpAny (model X.prog X.w) X.A (f (.int i t) (.int j u)) Q E s) :
    OpR X f (rI C fun i j => .int (g i j)) := by
  intro pins s σ H x y v u Q I rx ry h
  obtain ⟨i, j, rfl, rfl, hc, q⟩ := h
  obtain ⟨t, rfl⟩ := rx
  obtain ⟨t', rfl⟩ := ry
  exact rule i j t t' s _ _ hc ⟨.int (g i j), H, I.tok _, ⟨_, rfl⟩, q⟩
theorem opI0 {f : Value → Value → Sem Value} {g : Int → Int → Int}
    (rule : ∀ (i j : Int) (t u : Tok) (s : Shared) (Q : Value → Shared → Prop) (E : Value → Shared → Prop), Q (.int (g i j) s.toks) { s with toks := s.toks + 1 } → wpAny (model X.prog X.w) X.A (f (.int i t) (.int j u)) Q E s) :
    OpR X f (rI0 fun i j => .int (g i j)) := by
  intro pins s σ H x y v u Q I rx ry h
  obtain ⟨i, j, rfl, rfl, q⟩ := h
  obtain ⟨t, rfl⟩ := rx
  obtain ⟨t', rfl⟩ := ry
  exact rule i j t t' s _ _ ⟨.int (g i j), H, I.tok _, ⟨_, rfl⟩, q⟩
theorem opB0 {f : Value → Value → Sem Value} {g : Int → Int → Bool}
    (rule : ∀ (i j : Int) (t u : Tok) (s : Shared) (Q : Value → Shared → Prop) (E : Value → Shared → Prop), Q (.bool (g i j)) s → wpAny (model X.prog X.w) X.A (f (.int i t) (.int j u)) Q E s) :
    OpR X f (rI0 fun i j => .bl (g i j)) := by
  intro pins s σ H x y v u Q I rx ry h
  obtain ⟨i, j, rfl, rfl, q⟩ := h
  obtain ⟨t, rfl⟩ := rx
  obtain ⟨t', rfl⟩ := ry
  exact rule i j t t' s _ _ ⟨.bl (g i j), H, I, rfl, q⟩

def CDiv (i j : Int) : Prop := 0 < j ∧ j < 1073741824
def CDivN (i j : Int) : Prop := j ≠ 0 ∧ j.natAbs < 1073741824
def CPow (i j : Int) : Prop := 0 ≤ j ∧ j ≤ 1000000 ∧ i.natAbs < 2 ^ 64
def CMul (i j : Int) : Prop := (-(2 ^ 64) < i ∧ i < 2 ^ 64) ∨ (-(2 ^ 64) < j ∧ j < 2 ^ 64)
theorem CMul.ok {i j : Int} (h : CMul i j) : IntMulOk i j := by
  rcases h with ⟨h1, h2⟩ | ⟨h1, h2⟩
  · exact .of_left (intBits_le_64 h1 h2)
  · exact .of_right (intBits_le_64 h1 h2)

theorem op_add : OpR X (binaryOp .Add) (rI0 fun i j => .int (i + j)) := opI0 fun _ _ _ _ _ _ _ q => add_int q
theorem op_sub : OpR X (binaryOp .Sub) (rI0 fun i j => .int (i - j)) := opI0 fun _ _ _ _ _ _ _ q => sub_int q
theorem op_mul : OpR X (binaryOp .Mult) (rI CMul fun i j => .int (i * j)) := opI fun _ _ _ _ _ _ _ hc q => mul_int q hc.ok
/-- // by a positive divisor -/
theorem op_fdiv : OpR X (binaryOp .FloorDiv) (rI CDiv fun i j => .int (i / j)) := opI fun i j _ _ _ _ _ hc q => by
  have h1 : (0 : Int) < j := hc.1
  have h2 : j < 1073741824 := hc.2
  exact floordiv_int (by omega) (by rw [Int.fdiv_eq_ediv_of_nonneg i (by omega)]; exact q) (.inl (PyProof.noPylong_small (by omega)))
/-- % by a positive divisor of any size -/
theorem op_mod : OpR X (binaryOp .Mod) (rI (fun _ j => 0 < j) fun i j => .int (i % j)) := opI fun i j _ _ _ _ _ hc q => by
  have h1 : (0 : Int) < j := hc
  exact mod_int' (by omega) (by rw [Int.fmod_eq_emod_of_nonneg i (by omega)]; exact q)
theorem op_pow : OpR X (binaryOp .Pow) (rI CPow fun i j => .int (i ^ j.toNat)) := opI fun _ _ _ _ _ _ _ hc q => pow_int_small hc.1 hc.2.1 hc.2.2 q


theorem unI {f : Value → Sem Value} {g : Int → Int}
    (rule : ∀ (i : Int) (t : Tok) (s : Shared) (Q : Value → Shared → Prop) (E : Value → Shared → Prop), Q (.int (g i) s.toks) { s with toks := s.toks + 1 } → wpAny (model X.prog X.w) X.A (f (.int i t)) Q E s) :
    UnR X f (rU fun i => .int (g i)) := by
  intro pins s σ H x v Q I rx h
  obtain ⟨i, rfl, q⟩ := h
  obtain ⟨t, rfl⟩ := rx
  exact rule i t s _ _ ⟨.int (g i), H, I.tok _, ⟨_, rfl⟩, q⟩
theorem un_neg : UnR X (unaryOp .USub) (rU fun i => .int (-i)) := unI fun _ _ _ _ _ q => neg_int q

/-! ### bools among ints: n += (a < b) -/
end

/-! ### comparisons -/
/-- the scalars that == tells apart as data does -/
def scal : V → V → Bool
  | .non, .non => true | .non, .int _ => true | .int _, .non => true | .non, .bl _ => true | .bl _, .non => true | .non, .str _ => true | .str _, .non => true
  | .int _, .int _ => true | .bl _, .bl _ => true | .str _, .str _ => true | .byt _, .byt _ => true
  | .int _, .str _ => true | .str _, .int _ => true | .bl _, .str _ => true | .str _, .bl _ => true
  | _, _ => false
def rEq : R2 := fun x y H Q => scal x y = true ∧ Q (.bl (decide (x = y))) H
def rNe : R2 := fun x y H Q => scal x y = true ∧ Q (.bl (!decide (x = y))) H

theorem dec_int {i j : Int} : decide (V.int i = V.int j) = (i == j) := by
  rw [Bool.eq_iff_iff]
  simp
theorem dec_bl {i j : Bool} : decide (V.bl i = V.bl j) = (i == j) := by
  rw [Bool.eq_iff_iff]
  simp
theorem dec_str {i j : Str} : decide (V.str i = V.str j) = (i == j) := by
  rw [Bool.eq_iff_iff]
  simp
theorem dec_byt {i j : Array UInt8} : decide (V.byt i = V.byt j) = (i.toList == j.toList) := by
  rw [Bool.eq_iff_iff]
  cases i
  cases j
  simp

section
variable {X : Cx} {a b c : Expr} {ta tb tc : TE} {pos : Pos}
theorem fin_bl {pins : List (Addr × Obj)} {σ : St} {H : Hp} {s : Shared} {Q : VK} {k k' : Bool} (I : Inv X pins σ H s) (q : Q (.bl k) H) (e : k = k') : EP X pins σ Q (.bool k') s := by
  subst e
  exact ⟨.bl k, H, I, rfl, q⟩
theorem op_eq : OpR X (compareOp .Eq) rEq := by
  intro pins s σ H x y v u Q I rx ry h
  obtain ⟨hs, q⟩ := h
  cases x with
  | non =>
    cases rx
    cases y with
    | non => cases ry; exact PySem.EqNone.eq_none_none (fin_bl I q (by simp))
    | bl j => cases ry; exact PySem.EqNone.eq_none_bool (fin_bl I q (by simp))
    | int j => obtain ⟨t', rfl⟩ := ry; exact PySem.EqNone.eq_none_int (fin_bl I q (by simp))
    | str j => obtain ⟨t', rfl⟩ := ry; exact PySem.EqNone.eq_none_str (fin_bl I q (by simp))
    | _ => exact absurd (show false = true from hs) Bool.false_ne_true
  | bl i =>
    cases rx
    cases y with
    | non => cases ry; exact PySem.EqNone.eq_bool_none (fin_bl I q (by simp))
    | bl j => cases ry; exact eq_bool (fin_bl I q dec_bl)
    | str j => obtain ⟨t', rfl⟩ := ry; exact PySem.EqMixed.eq_bool_str (fin_bl I q (by simp))
    | _ => exact absurd (show false = true from hs) Bool.false_ne_true
  | int i =>
    obtain ⟨t, rfl⟩ := rx
    cases y with
    | non => cases ry; exact PySem.EqNone.eq_int_none (fin_bl I q (by simp))
    | int j => obtain ⟨t', rfl⟩ := ry; exact eq_int (fin_bl I q dec_int)
    | str j => obtain ⟨t', rfl⟩ := ry; exact PySem.EqMixed.eq_int_str (fin_bl I q (by simp))
    | _ => exact absurd (show false = true from hs) Bool.false_ne_true
  | str i =>
    obtain ⟨t, rfl⟩ := rx
    cases y with
    | non => cases ry; exact PySem.EqNone.eq_str_none (fin_bl I q (by simp))
    | bl j => cases ry; exact PySem.EqMixed.eq_str_bool (fin_bl I q (by simp))
    | int j => obtain ⟨t', rfl⟩ := ry; exact PySem.EqMixed.eq_str_int (fin_bl I q (by simp))
    | str j => obtain ⟨t', rfl⟩ := ry; exact eq_str (fin_bl I q dec_str)
    | _ => exact absurd (show false = true from hs) Bool.false_ne_true
  | byt i =>
    obtain ⟨t, rfl⟩ := rx
    cases y with
    | byt j => obtain ⟨t', rfl⟩ := ry; exact PySem.W.eq_bytes (fin_bl I q dec_byt)
    | _ => exact absurd (show false = true from hs) Bool.false_ne_true
  | _ => cases y <;> exact absurd (show false = true from hs) Bool.false_ne_true
theorem op_ne : OpR X (compareOp .NotEq) rNe := by
  intro pins s σ H x y v u Q I rx ry h
  obtain ⟨hs, q⟩ := h
  cases x with
  | non =>
    cases rx
    cases y with
    | non => cases ry; exact PySem.EqNone.ne_none_none (fin_bl I q (by simp))
    | bl j => cases ry; exact PySem.EqNone.ne_none_bool (fin_bl I q (by simp))
    | int j => obtain ⟨t', rfl⟩ := ry; exact PySem.EqNone.ne_none_int (fin_bl I q (by simp))
    | str j => obtain ⟨t', rfl⟩ := ry; exact PySem.EqNone.ne_none_str (fin_bl I q (by simp))
    | _ => exact absurd (show false = true from hs) Bool.false_ne_true
  | bl i =>
    cases rx
    cases y with
    | non => cases ry; exact PySem.EqNone.ne_bool_none (fin_bl I q (by simp))
    | bl j => cases ry; exact ne_bool (fin_bl I q (congrArg not dec_bl))
    | str j => obtain ⟨t', rfl⟩ := ry; exact PySem.EqMixed.ne_bool_str (fin_bl I q (by simp))
    | _ => exact absurd (show false = true from hs) Bool.false_ne_true
  | int i =>
    obtain ⟨t, rfl⟩ := rx
    cases y with
    | non => cases ry; exact PySem.EqNone.ne_int_none (fin_bl I q (by simp))
    | int j => obtain ⟨t', rfl⟩ := ry; exact ne_int (fin_bl I q (congrArg not dec_int))
    | str j => obtain ⟨t', rfl⟩ := ry; exact PySem.EqMixed.ne_int_str (fin_bl I q (by simp))
    | _ => exact absurd (show false = true from hs) Bool.false_ne_true
  | str i =>
    obtain ⟨t, rfl⟩ := rx
    cases y with
    | non => cases ry; exact PySem.EqNone.ne_str_none (fin_bl I q (by simp))
    | bl j => cases ry; exact PySem.EqMixed.ne_str_bool (fin_bl I q (by simp))
    | int j => obtain ⟨t', rfl⟩ := ry; exact PySem.EqMixed.ne_str_int (fin_bl I q (by simp))
    | str j => obtain ⟨t', rfl⟩ := ry; exact ne_str (fin_bl I q (congrArg not dec_str))
    | _ => exact absurd (show false = true from hs) Bool.false_ne_true
  | byt i =>
    obtain ⟨t, rfl⟩ := rx
    cases y with
    | byt j => obtain ⟨t', rfl⟩ := ry; exact PySem.W.ne_bytes (fin_bl I q (congrArg not dec_byt))
    | _ => exact absurd (show false = true from hs) Bool.false_ne_true
  | _ => cases y <;> exact absurd (show false = true from hs) Bool.false_ne_true

theorem op_lt : OpR X (compareOp .Lt) (rI0 fun i j => .bl (decide (i < j))) := opB0 fun _ _ _ _ _ _ _ q => lt_int q
theorem op_le : OpR X (compareOp .LtE) (rI0 fun i j => .bl (decide (i ≤ j))) := opB0 fun _ _ _ _ _ _ _ q => le_int q
theorem op_gt : OpR X (compareOp .Gt) (rI0 fun i j => .bl (decide (j < i))) := opB0 fun _ _ _ _ _ _ _ q => gt_int q
theorem op_ge : OpR X (compareOp .GtE) (rI0 fun i j => .bl (decide (j ≤ i))) := opB0 fun _ _ _ _ _ _ _ q => ge_int q


/-- is, is not of two objects that are tracked lists or instances -/
def isObj : HO → Bool
  | .lst _ => true
  | .ins _ _ _ => true
  | _ => false


theorem nomark (b : Expr) {op : CmpOp} (h : op ≠ .In := by decide) (h2 : op ≠ .NotIn := by decide) : behindInMarks op b = false := by
  have e1 : (op == CmpOp.In) = false := by cases op <;> first | rfl | exact absurd rfl h
  have e2 : (op == CmpOp.NotIn) = false := by cases op <;> first | rfl | exact absurd rfl h2
  cases b <;> simp [behindInMarks, e1, e2]
/-- a comparison as a value; hm: nomark b, or (for in, not in) by with_unfolding_all rfl -/
theorem pe_cmpR {op : CmpOp} {r : R2} (ho : OpR X (compareOp op) r) (ha : PE X a ta) (hb : PE X b tb) (hm : behindInMarks op b = false) : PE X (.Compare a [op] [b] pos) (tOp r ta tb) := by
  intro pins s σ H Q I h
  exact wpAny_Compare1 (binT ha hb I h fun v u s2 x y H2 I2 rx ry q => ho pins s2 σ H2 x y v u Q I2 rx ry q) hm
/-- a reading of a value as a test -/
def tTest (t : TE) : TT := fun σ H Q => t σ H fun x H' => ∃ k, x = .bl k ∧ Q k H'
theorem pt_cmpR {op : CmpOp} {r : R2} (ho : OpR X (compareOp op) r) (ha : PE X a ta) (hb : PE X b tb) (hm : behindInMarks op b = false) : PT X (.Compare a [op] [b] pos) (tTest (tOp r ta tb)) := by
  intro pins s σ H Q I h
  refine wpAny_isTrue_Compare1 (thn (ha pins s σ H _ I h) fun v s1 ⟨x, H1, I1, r1, q1⟩ => thn (hb pins s1 σ H1 _ I1 q1) fun u s2 ⟨y, H2, I2, r2, q2⟩ =>
    thn (ho pins s2 σ H2 x y v u _ I2 r1 r2 q2) fun c s3 ⟨z, H3, I3, r3, k, e, q3⟩ => ?_) hm
  subst e
  cases r3
  exact wpAny_truthy_bool ⟨H3, I3, q3⟩
/-- a op1 b op2 c -/
def tChain (r r' : R2) (ta tb tc : TE) : TE := fun σ H Q => ta σ H fun x H1 => tb σ H1 fun y H2 => r x y H2 fun z H3 => ∃ k, z = .bl k ∧
  (if k = true then tc σ H3 fun w' H4 => r' y w' H4 Q else Q (.bl false) H3)

/-! ### truth -/
/-- a value's truth by the abstract heap -/
def TruV (K : PySem.W.Frag) (x : V) (H : Hp) (k : Bool) : Prop :=
  match x with
  | .non => k = false
  | .bl b => k = b
  | .int i => k = (i != 0)
  | .str y => y.length ≤ sizeLine ∧ k = ((y.length : Int) != 0)
  | .byt y => y.size ≤ sizeLine ∧ k = ((y.size : Int) != 0)
  | .ref p => (∃ xs, SqL K H p xs ∧ k = !xs.isEmpty) ∨ (∃ xs, SqT K H p xs ∧ k = !xs.isEmpty) ∨ ∃ kvs, H p = some (.dK kvs) ∧ k = !kvs.isEmpty
  | _ => False
theorem line63 : (sizeLine : Nat) < 2 ^ 63 := by rw [sizeLine_eq]; decide

/-! ### strs and bytes -/

def PlainIxT (b : Expr) : Prop := ∀ o i, subscripted b false o i = operate [o, i] (getItem o i)

/-! ### scalar builtins, by CallR -/
theorem vals1 {x : V} {us : List Value} (r : Vals [x] us) : ∃ u, us = [u] ∧ RelV x u := by
  cases r with
  | cons r1 r2 => cases r2; exact ⟨_, rfl, r1⟩
/-- len of a str, a bytes, a list, a tuple -/
def LenV (K : PySem.W.Frag) (x : V) (H : Hp) (n : Nat) : Prop :=
  match x with
  | .str y => y.length ≤ sizeLine ∧ n = y.length
  | .byt y => y.size ≤ sizeLine ∧ n = y.size
  | .ref p => (∃ xs, SqL K H p xs ∧ n = xs.length) ∨ ∃ xs, SqT K H p xs ∧ n = xs.length
  | _ => False
end
end L2

namespace L2
open PySem PySem.Spec PyProof.Rows

/-! ### an instance, its attributes a map -/
structure ObjM (h : Heap) (x dx C : Addr) (mA : Str → Option Value) : Prop where
  obj : h.get? x = some (PySem.W.instObj C dx)
  ns : h.Ns1 dx mA
  ne : dx ≠ x



section
variable {prog : Program} {w : World} {A : Around} {E : Value → Shared → Prop} {s : Shared} {K : PySem.W.Frag} {x dx C f : Addr} {mA : Str → Option Value} {name : Str} {v : Value}





end

/-! ### the attributes as a list of pairs -/
def putF (f : Str) (v : V) : List (Str × V) → List (Str × V)
  | [] => [(f, v)]
  | (g, x) :: r => if g = f then (g, v) :: r else (g, x) :: putF f v r


section
variable {P : Program} {w : World} {H H' : Hp} {h h' : Heap} {a C dx : Addr} {fs fs' : List (Str × V)}
end

/-! ### what of the text a class must have -/
structure Cls (K : PySem.W.Frag) (C : Addr) : Prop where
  pg : PySem.W.plainGet K C Str.empty = true
  hd : PySem.W.hasDictIn K C = true
  po : PySem.W.plainOver K C = true
  sa : PySem.W.findIn K (.ref C) "__setattr__" = some (some (.builtin "object.__setattr__"))
/-- no class of it has the name -/
def NoAttr (K : PySem.W.Frag) (C : Addr) (f : Str) : Prop := PySem.W.findIn K (.ref C) f = some none
/-- a constant of the class -/
structure Con (K : PySem.W.Frag) (C : Addr) (f : Str) (v : V) (u : Value) : Prop where
  at_ : PySem.W.findIn K (.ref C) f = some (some u)
  rel : RelV v u
  get : PySem.W.specialIn K u "__get__" = some none
  cp : PySem.W.copiedNames.contains f = false
/-- a method: a plain def of the class or of one above it -/
structure Meth (K : PySem.W.Frag) (C : Addr) (m : Str) (f : Addr) : Prop where
  at_ : PySem.W.findIn K (.ref C) m = some (some (.ref f))
  fn : PySem.W.isFn K (.ref f) = true
  kp : PySem.W.keepIn K (.ref f) = true

section
variable {X : Cx} {pins : List (Addr × Obj)} {σ : St} {H : Hp} {s : Shared} {a C dx : Addr} {fs : List (Str × V)} {f : Str} {v : V} {A : Around} {E : Value → Shared → Prop}






end

/-! ### readings and rules -/
/-- e.f, an attribute of the instance -/
def tFld (K : PySem.W.Frag) (ta : TE) (f : Str) : TE := fun σ H Q => ta σ H fun x H1 => ∃ a C dx fs v, x = .ref a ∧ H1 a = some (.ins C dx fs) ∧ Cls K C ∧ NoAttr K C f ∧ fs.lookup f = some v ∧ Q v H1
/-- e.f, a constant of the class -/
def tCon (K : PySem.W.Frag) (ta : TE) (f : Str) : TE := fun σ H Q => ta σ H fun x H1 => ∃ a C dx fs v u, x = .ref a ∧ H1 a = some (.ins C dx fs) ∧ Cls K C ∧ Con K C f v u ∧ fs.lookup f = none ∧ Q v H1
/-- e.f = value -/
def sFld (K : PySem.W.Frag) (ta tv : TE) (f : Str) : TS := fun D σ H => tv σ H fun y H1 => ta σ H1 fun x H2 => ∃ a C dx fs, x = .ref a ∧ H2 a = some (.ins C dx fs) ∧ Cls K C ∧ NoAttr K C f ∧ fs.length < 1000 ∧
  D.nx σ (upd H2 a (.ins C dx (putF f y fs)))
/-- an augmented operator on two values -/
def InOp (X : Cx) (op : Operator) (rd : V → V → Hp → VK → Prop) : Prop :=
  ∀ (pins : List (Addr × Obj)) (s : Shared) (σ : St) (H : Hp) (x y : V) (u v : Value) (Q : VK), Inv X pins σ H s → RelV x u → RelV y v → rd x y H Q → wpAny (model X.prog X.w) X.A (inplaceOp op u v) (EP X pins σ Q) X.xe s
/-- e.f op= value -/
def sFldAug (K : PySem.W.Frag) (ta tv : TE) (rd : V → V → Hp → VK → Prop) (f : Str) : TS := fun D σ H => ta σ H fun x H1 => ∃ a C dx fs v, x = .ref a ∧ H1 a = some (.ins C dx fs) ∧ Cls K C ∧ NoAttr K C f ∧ fs.lookup f = some v ∧
  tv σ H1 fun y H2 => rd v y H2 fun z H3 => ∃ dx' fs', H3 a = some (.ins C dx' fs') ∧ fs'.length < 1000 ∧ D.nx σ (upd H3 a (.ins C dx' (putF f z fs')))

section
variable {X : Cx} {o e value : Expr} {f : Str} {pos pos' tpos : Pos} {ta tv : TE}
def rAdd : V → V → Hp → VK → Prop := fun x y H Q => ∃ i j, x = .int i ∧ y = .int j ∧ Q (.int (i + j)) H
def rSub : V → V → Hp → VK → Prop := fun x y H Q => ∃ i j, x = .int i ∧ y = .int j ∧ Q (.int (i - j)) H

end

/-! ### isinstance -/
section
variable {X : Cx} {pins : List (Addr × Obj)} {σ : St} {H : Hp} {s : Shared} {A : Around} {E : Value → Shared → Prop} {Q : Value → Shared → Prop} {c : Value} {b : Bool}
/-- the type of a value, as the fragment's deciders take it; for an instance its class -/
inductive TyOf (K : PySem.W.Frag) (H : Hp) : V → Value → Prop where
  | non : TyOf K H .non (.type "NoneType")
  | bl (x : Bool) : TyOf K H (.bl x) (.type "bool")
  | int (i : Int) : TyOf K H (.int i) (.type "int")
  | str (x : Str) : TyOf K H (.str x) (.type "str")
  | flt (x : UInt64) : TyOf K H (.flt x) (.type "float")
  | lst {a : Addr} {xs : List V} (e : H a = some (.lst xs)) : TyOf K H (.ref a) (.type "list")
  | frz {a : Addr} {o : Obj} {xs : List V} (e : H a = some (.frz o (.lst xs))) : TyOf K H (.ref a) (.type "list")
  | tup {a : Addr} {xs : List V} (e : H a = some (.tup xs)) : TyOf K H (.ref a) (.type "tuple")
  | dK {a : Addr} {kvs : List (Key × V)} (e : H a = some (.dK kvs)) : TyOf K H (.ref a) (.type "dict")
  | dT {a : Addr} {kvs : List (List Key × V)} (e : H a = some (.dT kvs)) : TyOf K H (.ref a) (.type "dict")
  | ins {a C dx : Addr} {fs : List (Str × V)} (e : H a = some (.ins C dx fs)) (cl : Cls K C) (ha : PySem.W.findIn K (.ref C) "__class__" = some (some (.builtin "object.__class__")))
      (hn : PySem.W.specialIn K (.builtin "object.__class__") "__get__" = some (some (.builtin "getset_descriptor.__get__"))) (htk : PySem.W.takesIn K (.builtin "object.__class__") = some true)
      (hm : PySem.W.mroIn K C (.type "object") = some true) : TyOf K H (.ref a) (.ref C)
end
end L2

namespace L2
open PySem PySem.Spec PyProof.Rows

/-! ### room -/
structure Room (k : Nat) (A : Around) : Prop where
  hd : A.handled = none
  dp : A.depth + 3 * k + 5 < recursionLimit
  un : A.units + 16 * k + 200 < cLine
theorem Room.mono {j k : Nat} {A : Around} (r : Room k A) (h : j ≤ k) : Room j A := ⟨r.hd, by have := r.dp; omega, by have := r.un; omega⟩
theorem Room.deeper {k : Nat} {A : Around} (r : Room (k + 1) A) (env : Env) : Room k (A.deeper env) :=
  ⟨r.hd, by have := r.dp; show A.depth + 1 + 3 * k + 5 < _; omega, by have := r.un; show A.units + 3 + 16 * k + 200 < _; omega⟩
theorem Room.depth {k : Nat} {A : Around} (r : Room k A) : A.depth < recursionLimit := by have := r.dp; omega
theorem Room.units {k : Nat} {A : Around} (r : Room k A) : A.units + 64 < cLine := by have := r.un; omega

/-! ### argument lists and displays -/
def tNil : TA := fun _ H Q => Q [] H
def tCons (ta : TE) (tr : TA) : TA := fun σ H Q => ta σ H fun x H1 => tr σ H1 fun xs H2 => Q (x :: xs) H2
section
variable {X : Cx} {e : Expr} {es : List Expr} {te : TE} {t : TA} {pos : Pos}
theorem pa_nil : PA X [] tNil := fun _ _ _ _ H Q I h => Calls.spliced_nil ⟨[], H, I, .nil, h⟩
theorem pa_cons (ha : PE X e te) (hr : PA X es t) (hs : starEach (e :: es) X.env = (false, eval e X.env) :: starEach es X.env := by rfl) : PA X (e :: es) (tCons te t) := by
  intro pos pins s σ H Q I h
  rw [hs]
  show wpAny _ _ (spliced ((false, eval e X.env) :: backTo pos (starEach es X.env))) _ _ s
  refine Calls.spliced_cons (thn (ha pins s σ H _ I h) fun u s1 ⟨x, H1, I1, r1, q1⟩ => ?_)
  exact thn (hr pos pins s1 σ H1 _ I1 q1) fun us s2 ⟨xs, H2, I2, r2, q2⟩ => ⟨x :: xs, H2, I2, .cons r1 r2, q2⟩

/-- a tuple, a list of written items -/
def tTup (t : TA) : TE := fun σ H Q => t σ H fun xs H1 => xs.length ≤ sizeLine ∧ ∀ p, H1 p = none → Q (.ref p) (upd H1 p (.tup xs))
def tLst (t : TA) : TE := fun σ H Q => t σ H fun xs H1 => xs.length ≤ sizeLine ∧ ∀ p, H1 p = none → Q (.ref p) (upd H1 p (.lst xs))
theorem pe_lst (h : PA X es t) : PE X (.List es pos) (tLst t) := by
  intro pins s σ H Q I hq
  refine wpAny_List_spliced (thn (h pos pins s σ H _ I hq) fun us s1 ⟨xs, H1, I1, r, z, q⟩ => ⟨by rw [← r.length]; exact z, ?_⟩)
  have hf : H1 s1.heap.objs.size = none := I1.hok.fresh (Nat.le_refl _)
  refine ⟨.ref s1.heap.objs.size, upd H1 s1.heap.objs.size (.lst xs), I1.laid (t' := s1.toks) (fun b u e => Heap.get?_push_of_some _ e) (Nat.le_refl _) ?_, rfl, q _ hf⟩
  exact ⟨z, us, 0, r, Heap.get?_push_size _ rfl⟩
end

/-! ### what a def promises -/
/-- a def's promise: the bound arguments in the parameters' order, the heap, the wanted end, the wanted exception -/
abbrev Sp := List V → Hp → VK → XK → Prop
/-- how an exception lies behind a call (file 08 gives it): the callers' frames, abstract heap and state ahead of the call, the wish, the exception, the state -/
abbrev CXT := List Env → Hp → Shared → XK → Value → Shared → Prop

/-- the state at a call -/
structure Env0 (P : Program) (w : World) (K : PySem.W.Frag) (mg : Str → Option Value) (base : Heap) (A : Around) (outer : List Env) (s : Shared) (H : Hp) : Prop where
  frames : A.frames = some outer
  mod : Mod K mg base
  bs : ∀ b o, base.get? b = some o → s.heap.get? b = some o ∧ H b = none
  bsz : base.objs.size ≤ s.heap.objs.size
  funs : s.heap.FunFrames base outer
  frf : ∀ b ∈ frs outer, H b = none
  hok : HOk P w H s.heap
  bare : AllBare s.gens
/-- a call's end -/
def CE (outer : List Env) (P : Program) (w : World) (H : Hp) (s : Shared) (Q : VK) (u : Value) (s' : Shared) : Prop :=
  ∃ v H', s'.os = s.os ∧ AllBare s'.gens ∧ Un (frs outer) [] H H' s.heap s'.heap ∧ HOk P w H' s'.heap ∧ RelV v u ∧ Q v H'
def CR (CX : CXT) (outer : List Env) (P : Program) (w : World) (H : Hp) (s : Shared) (Q : VK) (E : XK) (r : Result) (s' : Shared) : Prop :=
  match r with
  | .ok (.ret u) => CE outer P w H s Q u s'
  | .ok _ => False
  | .error e => CX outer H s E e s'
structure FnOk (P : Program) (w : World) (K : PySem.W.Frag) (mg : Str → Option Value) (base : Heap) (CX : CXT) (k : Nat) (f : Addr) (fd : FuncData) (ps : List Str) (sp : Sp) : Prop where
  len : ∀ vs H Q E, sp vs H Q E → vs.length = ps.length
  run : ∀ (A : Around) (outer : List Env) (s : Shared) (H : Hp) (args : Args) (us : List Value) (vs : List V) (Q : VK) (E : XK), Room k A → Env0 P w K mg base A outer s H → BindsTo s fd args (ps.zip us) → Vals vs us → sp vs H Q E →
    codeAny (model P w) A (.call (.ref f) args) (CR CX outer P w H s Q E) s


section
variable {X : Cx} {pins : List (Addr × Obj)} {σ : St} {H : Hp} {s s' : Shared}
/-- from a body: what a callee wants -/
theorem Inv.env0 (I : Inv X pins σ H s) : Env0 X.prog X.w X.K X.mg X.base X.A X.stack s H :=
  ⟨I.ok.frames, I.ok.mod, I.bs, Nat.le_trans I.ok.bsz I.sz, I.stack, I.stkFree, I.hok, I.bare⟩
/-- behind a call -/
theorem Inv.after {Q : VK} {u : Value} (I : Inv X pins σ H s) (h : CE X.stack X.prog X.w H s Q u s') : EP X pins σ Q u s' := by
  obtain ⟨v, H', os, bare, un, hok, r, q⟩ := h
  obtain ⟨hh, g, d, t, os'⟩ := s'
  obtain rfl : os' = s.os := os
  exact ⟨v, H', I.call (h' := hh) (g' := g) (d' := d) (t' := t) (ch := []) un hok bare (fun b z => absurd z (by simp)), r, q⟩
end

/-! ### calls -/
/-- f(..): the written arguments, then the defaults dvs; E: what is wanted of an exception -/
def tCall (sp : Sp) (dvs : List V) (E : XK) (t : TA) : TE := fun σ H Q => t σ H fun vs H1 => sp (vs ++ dvs) H1 Q E
/-- o.m(..) of an instance of the class at C -/
def tMeth (C : Addr) (m : Str) (sp : Sp) (dvs : List V) (E : XK) (ta : TE) (t : TA) : TE := fun σ H Q => ta σ H fun x H1 => ∃ a dx fs, x = .ref a ∧ H1 a = some (.ins C dx fs) ∧ fs.lookup m = none ∧
  t σ H1 fun vs H2 => sp (x :: (vs ++ dvs)) H2 Q E
/-- C(..): a new instance and its dict, then __init__ -/
def tMake (C : Addr) (sp : Sp) (dvs : List V) (E : XK) (t : TA) : TE := fun σ H Q => t σ H fun vs H1 => ∀ x dx, H1 x = none → H1 dx = none → dx ≠ x →
  sp (.ref x :: (vs ++ dvs)) (upd (upd H1 dx (.own x)) x (.ins C dx [])) (fun v H2 => v = .non ∧ Q (.ref x) H2) E

/-- how the parameters are bound: us the positional arguments, kw the keywords' values by name, ds the defaults that fill up -/
def Binds (K : PySem.W.Frag) (fd : FuncData) (ps : List Str) (ds : List Value) : Prop :=
  ∀ (s : Shared) (us : List Value), K.In s.heap → (us ++ ds).length = ps.length → BindsTo s fd ⟨us, []⟩ (ps.zip (us ++ ds))
/-- every parameter is given -/
theorem Binds.all {K : PySem.W.Frag} {fd : FuncData} {ps : List Str} (h : ∀ us : List Value, us.length = ps.length → bindArgs fd ⟨us, []⟩ = pure (ps.zip us)) : Binds K fd ps [] := fun s us _ hl => by
  rw [List.append_nil] at hl ⊢
  exact .of_eq (h us hl)

/-- an exception of a callee reaches what this body wants of exceptions -/
def Passes (CX : CXT) (X : Cx) (E : XK) : Prop := ∀ (pins : List (Addr × Obj)) (σ : St) (H : Hp) (s : Shared) (e : Value) (s' : Shared), Inv X pins σ H s → CX X.stack H s E e s' → X.xe e s'

section
variable {X : Cx} {CX : CXT} {k : Nat} {f C : Addr} {fd : FuncData} {ps : List Str} {sp : Sp} {dvs : List V} {ds : List Value} {E : XK} {x m : Str} {p pos apos : Pos} {e o : Expr} {es : List Expr} {ta : TE} {t : TA}

/-- the callee runs -/
theorem run_fn {pins : List (Addr × Obj)} {σ : St} {H : Hp} {s : Shared} {Q : VK} {us : List Value} {vs : List V} (F : FnOk X.prog X.w X.K X.mg X.base CX k f fd ps sp) (hr : Room k X.A) (hb : Binds X.K fd ps ds) (hd : Vals dvs ds) (hx : Passes CX X E)
    (I : Inv X pins σ H s) (r : Vals vs us) (h : sp (vs ++ dvs) H Q E) : wpAny (model X.prog X.w) X.A (call (.ref f) us) (EP X pins σ Q) X.xe s := by
  have r2 : Vals (vs ++ dvs) (us ++ ds) := r.append hd
  have hl : (us ++ ds).length = ps.length := by rw [← r2.length]; exact F.len _ _ _ _ h
  refine wpAny_call (codeAny_mono (F.run X.A X.stack s H ⟨us, []⟩ (us ++ ds) (vs ++ dvs) Q E hr I.env0 (hb s us I.kIn hl) r2 h) fun r s' hq => ?_)
  cases r with
  | error e => exact hx pins σ H s e s' I hq
  | ok fl =>
    cases fl with
    | ret u => exact I.after hq
    | next => exact False.elim hq
    | brk => exact False.elim hq
    | cont => exact False.elim hq

theorem pe_call (F : FnOk X.prog X.w X.K X.mg X.base CX k f fd ps sp) (hr : Room k X.A) (hg : Gl X x) (hm : X.mg x = some (.ref f)) (hk : PySem.W.keepIn X.K (.ref f) = true) (hb : Binds X.K fd ps ds) (hd : Vals dvs ds) (hx : Passes CX X E)
    (ha : PA X (e :: es) t) (hdb : (x == ("__debug__" : Str)) = false := by decide) (he : starEach (e :: es) X.env = (false, eval e X.env) :: starEach es X.env := by rfl) (hpl : (backTo pos (starEach es X.env)).any (·.1) = false := by rfl) :
    PE X (.Call (.Name x p) (e :: es) [] pos) (tCall sp dvs E t) := by
  intro pins s σ H Q I h
  refine wpAny_Call_Name_kw (ld_glob I hg hm ?_ hdb)
  refine PySem.W.callWith_K (h₀ := X.base) I.ok.mod.kin hk (thn (ha pos pins s σ H _ I h) fun us s1 ⟨vs, H1, I1, r, q⟩ => ⟨I1.kIn, ?_⟩) he hpl
  exact run_fn F hr hb hd hx I1 r q


/-- what a class must have to be made -/
structure Mk (K : PySem.W.Frag) (C f : Addr) : Prop where
  makes : PySem.W.makesIn K C = true
  init : PySem.W.findIn K (.ref C) "__init__" = some (some (.ref f))
  fn : PySem.W.isFn K (.ref f) = true
  kp : PySem.W.keepIn K (.ref C) = true

end

/-! ### keywords -/
/-- the values of the keywords, from the left -/
def PK (X : Cx) (kws : List Keyword) (t : TA) : Prop :=
  ∀ (pos : Pos) (pins : List (Addr × Obj)) (s : Shared) (σ : St) (H : Hp) (Q : List V → Hp → Prop), Inv X pins σ H s → t σ H Q → wpAny (model X.prog X.w) X.A (evalAll ((backToKw pos (keywordEach kws X.env)).map (·.2))) (AP X pins σ Q) X.xe s
section
variable {X : Cx} {CX : CXT} {k : Nat} {f C : Addr} {fd : FuncData} {ps ks : List Str} {sp : Sp} {E : XK} {x m : Str} {p pos apos kpos : Pos} {e o : Expr} {es : List Expr} {kws : List Keyword} {te ta : TE} {t tk : TA} {nm : Option Str}

/-- how a call with keywords binds: g puts the positional values us and the keywords' values ws (names ks) in the parameters' order, defaults among them -/
structure KBinds (K : PySem.W.Frag) (fd : FuncData) (ps ks : List Str) (g : List Value → List Value → List Value) (gV : List V → List V → List V) : Prop where
  to : ∀ (s : Shared) (us ws : List Value), K.In s.heap → (g us ws).length = ps.length → BindsTo s fd ⟨us, ks.zip ws⟩ (ps.zip (g us ws))
  rel : ∀ {vs : List V} {us : List Value} {zs : List V} {ws : List Value}, Vals vs us → Vals zs ws → Vals (gV vs zs) (g us ws)
def tCallK (sp : Sp) (gV : List V → List V → List V) (E : XK) (t tk : TA) : TE := fun σ H Q => t σ H fun vs H1 => tk σ H1 fun zs H2 => sp (gV vs zs) H2 Q E
variable {g : List Value → List Value → List Value} {gV : List V → List V → List V}
end

/-! ### a def's body keeps its promise -/
/-- names: the parameters first -/
structure FnScope (N P : List Str) (sc : Scope) : Prop where
  kind : sc.kind = .function
  co : sc.isCoroutine = false
  gen : sc.isGenerator = false
  nd : N.Nodup
  pre : N.take P.length = P
  par : ∀ x ∈ P, sc.names.lookup x = some .local ∨ sc.names.lookup x = some .cell
  nofree : ∀ y ∈ sc.names, y.2 ≠ .free

theorem bindL_out {kindOf : Str → Option NameKind} {x : Str} : ∀ {binds : List (Str × Value)} {m : Str → Option Value}, (∀ v, (x, v) ∉ binds) → bindL kindOf binds m x = m x
  | [], _, _ => rfl
  | (n, v) :: r, m, h => by
    unfold bindL
    rw [bindL_out fun w hw => h w (List.mem_cons_of_mem _ hw)]
    split
    · have : x ≠ n := by rintro rfl; exact h v List.mem_cons_self
      simp [this]
    · rfl
theorem bindC_out {kindOf : Str → Option NameKind} {x : Str} : ∀ {binds : List (Str × Value)} {m : Str → Option Value}, (∀ v, (x, v) ∉ binds) → bindC kindOf binds m x = m x
  | [], _, _ => rfl
  | (n, v) :: r, m, h => by
    unfold bindC
    rw [bindC_out fun w hw => h w (List.mem_cons_of_mem _ hw)]
    split
    · rfl
    · have : x ≠ n := by rintro rfl; exact h v List.mem_cons_self
      simp [this]
theorem bindL_get {kindOf : Str → Option NameKind} {x : Str} {v : Value} : ∀ {P : List Str} {vs : List Value} {i : Nat} {m : Str → Option Value}, P.Nodup → P[i]? = some x → vs[i]? = some v → kindOf x = some .local →
    bindL kindOf (P.zip vs) m x = some v
  | [], _, _, _, _, h, _, _ => by simp at h
  | _ :: _, [], _, _, _, _, h, _ => by simp at h
  | p :: P, w :: vs, 0, m, nd, h1, h2, hk => by
    simp at h1 h2; subst h1; subst h2
    show bindL kindOf ((p, w) :: P.zip vs) m p = _
    unfold bindL
    rw [bindL_out fun v hv => (List.nodup_cons.mp nd).1 (List.of_mem_zip hv).1, if_pos hk]
    simp
  | p :: P, w :: vs, i + 1, m, nd, h1, h2, hk => by
    show bindL kindOf ((p, w) :: P.zip vs) m x = _
    unfold bindL
    exact bindL_get (i := i) (List.nodup_cons.mp nd).2 (by simpa using h1) (by simpa using h2) hk
theorem bindC_get {kindOf : Str → Option NameKind} {x : Str} {v : Value} : ∀ {P : List Str} {vs : List Value} {i : Nat} {m : Str → Option Value}, P.Nodup → P[i]? = some x → vs[i]? = some v → kindOf x ≠ some .local →
    bindC kindOf (P.zip vs) m x = some v
  | [], _, _, _, _, h, _, _ => by simp at h
  | _ :: _, [], _, _, _, _, h, _ => by simp at h
  | p :: P, w :: vs, 0, m, nd, h1, h2, hk => by
    simp at h1 h2; subst h1; subst h2
    show bindC kindOf ((p, w) :: P.zip vs) m p = _
    unfold bindC
    rw [bindC_out fun v hv => (List.nodup_cons.mp nd).1 (List.of_mem_zip hv).1, if_neg hk]
    simp
  | p :: P, w :: vs, i + 1, m, nd, h1, h2, hk => by
    show bindC kindOf ((p, w) :: P.zip vs) m x = _
    unfold bindC
    exact bindC_get (i := i) (List.nodup_cons.mp nd).2 (by simpa using h1) (by simpa using h2) hk

/-- the names' values at the entry -/
def start (N : List Str) (vs : List V) : St := vs.map some ++ List.replicate (N.length - vs.length) none

/-- the context of a def's body, at its entry; an exception leaves the frame, then lies as CX says -/
def cxOf (CX : CXT) (P : Program) (w : World) (K : PySem.W.Frag) (mg : Str → Option Value) (base : Heap) (N : List Str) (qual : Str) (scope : Scope) (f : Addr) (cd : Value) (A : Around) (outer : List Env) (s : Shared) (H : Hp) (E : XK) : Cx where
  prog := P
  w := w
  K := K
  mg := mg
  base := base
  A := A.deeper (envOfC qual scope s.heap.objs.size f cd)
  N := N
  s₀ := s
  H₀ := H
  env := envOfC qual scope s.heap.objs.size f cd
  outer := outer
  stack := envOfC qual scope s.heap.objs.size f cd :: outer
  ex := []
  calm := true
  fn := fun _ => true
  pn := []
  xe := fun e s' => wpAny (model P w) (A.deeper (envOfC qual scope s.heap.objs.size f cd)) (leaving (envOfC qual scope s.heap.objs.size f cd) e) (fun _ s'' => CX outer H s E e s'') (fun e' s'' => CX outer H s E e' s'') s'

theorem cell_has {sc : Scope} {n : Nat} {x : Str} (h : sc.names.lookup x = some .cell) : ∃ c, (cellsFrom n sc.names []).lookup x = some c := by
  have q := PySem.W.cellsFrom_some sc.names n [] (.inl h)
  exact Option.isSome_iff_exists.mp q

theorem inv_start {CX : CXT} {P : Program} {w : World} {K : PySem.W.Frag} {mg : Str → Option Value} {base : Heap} {N ps : List Str} {qual : Str} {scope : Scope} {f : Addr} {cd : Value} {A : Around} {outer : List Env} {s s1 : Shared} {H : Hp} {E : XK} {us : List Value} {vs : List V}
    (S : FnScope N ps scope) (hd : A.handled = none) (e0 : Env0 P w K mg base A outer s H) (hl : vs.length = ps.length) (r : Vals vs us)
    (x : InCallC s s.heap.objs.size (bindL (envOfC qual scope s.heap.objs.size f cd).kindOf (ps.zip us) fun _ => none) (cellsFrom (s.heap.objs.size + 1) scope.names []) (bindC (envOfC qual scope s.heap.objs.size f cd).kindOf (ps.zip us) fun _ => none) s1) :
    Inv (cxOf CX P w K mg base N qual scope f cd A outer s H E) [] (start N vs) H s1 := by
  have hpl : ps.length ≤ N.length := by have := congrArg List.length S.pre; rw [List.length_take] at this; omega
  obtain ⟨h1, tk, rfl, hk⟩ := x.done
  have noA : ∀ b : Addr, b ∉ (cxOf CX P w K mg base N qual scope f cd A outer s H E).ex := fun b z => absurd (show b ∈ ([] : List Addr) from z) (by simp)
  refine ⟨⟨e0.mod, S.kind, rfl, rfl, Nat.le_refl _, fun y z c h1 h2 => ?_, fun y hy => ?_, fun y c _ h => ?_, fun _ => hd, Around.frames_deeper e0.frames, .inr ⟨rfl, rfl⟩, fun b z => absurd z (noA b), e0.bs, e0.bsz, fun b _ _ => noA b, fun b z => absurd z (noA b), e0.funs, e0.frf⟩,
    rfl, e0.bare, Un.kept hk, ⟨_, x.toInCall.ns, fun i y v h1 h2 h3 => ?_⟩, fun y c h => ⟨_, x.cell y c h⟩, e0.hok.fresh (Nat.le_refl _), fun y c h => ?_, fun p hp => absurd (show p ∈ ([] : List (Addr × Obj)) from hp) (by simp), e0.hok.kept hk, ?_⟩
  · exact name_of_addr x.apart (PySem.mem_of_lookup h1) (PySem.mem_of_lookup h2)
  · have hy : scope.names.lookup y = some .cell ∨ scope.names.lookup y = some .free := hy
    rcases hy with hy | hy
    · exact cell_has hy
    · exact absurd rfl (S.nofree _ (PySem.mem_of_lookup hy))
  · exact Nat.le_of_lt (x.above y c (PySem.mem_of_lookup h))
  · have hi : i < vs.length := by
      unfold start at h2
      by_cases hi : i < vs.length
      · exact hi
      · rw [List.getElem?_append_right (by simpa using hi)] at h2
        rw [List.getElem?_replicate] at h2
        split at h2 <;> cases h2
    have ha : vs[i]? = some v := by
      unfold start at h2
      rw [List.getElem?_append_left (by simpa using hi), List.getElem?_map] at h2
      cases e : vs[i]? with
      | none => rw [e] at h2; cases h2
      | some a => rw [e] at h2; cases h2; rfl
    obtain ⟨u, hu, rv⟩ := r.get ha
    have hp : ps[i]? = some y := by
      rw [← S.pre, List.getElem?_take_of_lt (by omega)]; exact h1
    have ndP : ps.Nodup := by rw [← S.pre]; exact S.nd.sublist (List.take_sublist _ _)
    refine ⟨u, rv, ?_⟩
    rcases S.par y (List.mem_of_getElem? hp) with k | k
    · exact .inl ⟨k, bindL_get ndP hp hu k⟩
    · obtain ⟨c, e⟩ := cell_has (n := s.heap.objs.size + 1) k
      refine .inr ⟨.inl k, c, e, ?_⟩
      have q := x.cell y c e
      rw [bindC_get ndP hp hu (by show scope.names.lookup y ≠ _; rw [k]; decide)] at q
      exact q
  · exact e0.hok.fresh (Nat.le_of_lt (x.above y c (PySem.mem_of_lookup h)))
  · unfold start
    show _ = N.length
    rw [List.length_append, List.length_map, List.length_replicate]
    omega

/-- THE RULE: a def (or a method) of the text, by its body. The body's reading t is chosen for each entry; it is run at the parameters' values -/
theorem fn_of {CX : CXT} {P : Program} {w : World} {K : PySem.W.Frag} {mg : Str → Option Value} {base : Heap} {k : Nat} {f : Addr} {name qual : Str} {params : Arguments} {body : List Stmt} {scope : Scope} {dV kV doc pm cdv ct oc : Value} {an od : Option Addr}
    {osl : Array (Option Value)} {N ps : List Str} {sp : Sp} (lk : K.lookup f = some ⟨oc, od, .func (PySem.W.fnOf name qual params body scope dV kV doc pm an cdv ct), osl⟩) (hcd : PySem.W.codeIn K cdv qual = true) (S : FnScope N ps scope)
    (len : ∀ vs H Q E, sp vs H Q E → vs.length = ps.length)
    (hbody : ∀ (A : Around) (outer : List Env) (s : Shared) (H : Hp) (vs : List V) (Q : VK) (E : XK), Room k (A.deeper (envOfC qual scope s.heap.objs.size f cdv)) → sp vs H Q E →
      ∃ t, PSs (cxOf CX P w K mg base N qual scope f cdv A outer s H E) body t ∧ t { nx := fun _ H' => Q .non H', rt := Q } (start N vs) H) :
    FnOk P w K mg base CX (k + 1) f (PySem.W.fnOf name qual params body scope dV kV doc pm an cdv ct) ps sp := by
  refine ⟨len, fun A outer s H args us vs Q E hr e0 hb r hsp => ?_⟩
  have hl := len _ _ _ _ hsp
  have KX : K.In s.heap := e0.mod.kin.keeps fun b o e => (e0.bs b o e).1
  have lim : s.heap.NoLimit := e0.mod.nolimit.keeps fun b o e => (e0.bs b o e).1
  have hkind : ∀ y ∈ ps.zip us, scope.names.lookup y.1 = some .local ∨ (scope.names.lookup y.1 = some .cell ∧ ((cellsFrom (s.heap.objs.size + 1) scope.names []).lookup y.1).isSome = true) := fun ⟨n, v⟩ hy => by
    rcases S.par n (List.of_mem_zip hy).1 with q | q
    · exact .inl q
    · exact .inr ⟨q, PySem.W.cellsFrom_some _ _ _ (.inl q)⟩
  refine codeAny_call_function hr.depth (KX _ _ lk) rfl S.co S.gen rfl (PySem.W.codeRec_of KX hcd) (hb _ _ _ _ ?_)
  refine wpAny_newFunctionEnv_cells S.kind hkind fun env he s1 x => ?_
  subst he
  refine ⟨lim.keeps x.toInCall.keep, codeAny_func ?_⟩
  obtain ⟨t, ht, hq⟩ := hbody A outer s H vs Q E (hr.deeper _) hsp
  have I : Inv (cxOf CX P w K mg base N qual scope f cdv A outer s H E) [] (start N vs) H s1 := inv_start S hr.hd e0 hl r x
  refine wpAny_mono (ht [] s1 (start N vs) H _ I hq) (fun fl s' hs => ?_) fun e s' hs => hs
  have fin : ∀ {σ' : St} {H' : Hp} {v : V} {u : Value}, Inv (cxOf CX P w K mg base N qual scope f cdv A outer s H E) [] σ' H' s' → RelV v u → Q v H' → CE outer P w H s Q u s' :=
    fun {σ' H' v u} J rv q => ⟨v, H', J.os, J.bare, J.base, J.hok, rv, q⟩
  cases fl with
  | ret u =>
    obtain ⟨v, σ', H', J, rv, q⟩ := hs
    exact fin J rv q
  | next =>
    obtain ⟨σ', H', J, q⟩ := hs
    exact fin (v := V.non) (u := Value.none) J rfl q
  | brk =>
    obtain ⟨_, _, _, q⟩ := hs
    exact False.elim q
  | cont =>
    obtain ⟨_, _, _, q⟩ := hs
    exact False.elim q
end L2

namespace L2
open PySem PySem.Spec PyProof.Rows
section
variable {X : Cx} {x : Str} {p pos : Pos} {e : Expr} {es : List Expr} {t : TA} {id T : String} {r : List V → Hp → VK → Prop}

def tCB (r : List V → Hp → VK → Prop) (t : TA) : TE := fun σ H Q => t σ H fun vs H1 => r vs H1 Q
/-- f(e, ..), f a built-in function -/
theorem pe_callB (hc : CallR X (.builtin id) r) (hg : Gl X x) (hm : X.mg x = none) (hv : bootBuiltins x = some (.builtin id)) (ha : PA X (e :: es) t) (hn : x ≠ "__name__" := by decide) (hdb : (x == ("__debug__" : Str)) = false := by decide)
    (he : starEach (e :: es) X.env = (false, eval e X.env) :: starEach es X.env := by rfl) (hpl : (backTo pos (starEach es X.env)).any (·.1) = false := by rfl) : PE X (.Call (.Name x p) (e :: es) [] pos) (tCB r t) := by
  intro pins s σ H Q I h
  refine wpAny_Call_Name_kw (ld_blt I hg hm hv ?_ hn hdb)
  exact PyProof.Rows.callWith_builtin1 (thn (ha pos pins s σ H _ I h) fun us s1 ⟨vs, H1, I1, r1, q1⟩ => hc pins s1 σ H1 vs us Q I1 r1 q1) he hpl
end
end L2

namespace HT
open PySem PyProof.Rows

/-- t < u of tuples of ints -/
def lexLt : List Int → List Int → Bool
  | [], [] => false
  | [], _ :: _ => true
  | _ :: _, [] => false
  | x :: xs, y :: ys => if x = y then lexLt xs ys else decide (x < y)


section
open PySem.SeqAt
open PySem.AutoSeq1 (wpAny_loadPart')
open PySem.MeetsSeq PySem.MeetsSeq2 PySem.MeetsSeq3

end

section
variable {prog : Program} {w : World} {A : Around} {E : Value → Shared → Prop} {s : Shared}



/-! ### t[a:b], not the whole -/
/-- a slice's bound as a place among n (d where it is left out) -/
def sIx (n d : Nat) : Option Int → Nat
  | none => d
  | some v => if v < 0 then (v + (n : Int)).toNat else min v.toNat n

end
end HT

namespace L2
open PySem PySem.Spec PyProof.Rows

/-! ### the parts of a slice -/
abbrev TO := St → Hp → (Option Int → Hp → Prop) → Prop
/-- a slice's part (left out, or an int) -/
def PO (X : Cx) (e : Option Expr) (t : TO) : Prop :=
  ∀ (pins : List (Addr × Obj)) (s : Shared) (σ : St) (H : Hp) (Q : Option Int → Hp → Prop), Inv X pins σ H s → t σ H Q →
    wpAny (model X.prog X.w) X.A (evalPart e X.env) (fun u s' => ∃ o H', Inv X pins σ H' s' ∧ IsPart u o ∧ Q o H') X.xe s
def tNoPart : TO := fun _ H Q => Q none H
def tPart (t : TE) : TO := fun σ H Q => t σ H fun x H1 => ∃ i, x = .int i ∧ Q (some i) H1


section
variable {X : Cx} {e : Expr} {te : TE} {lo hi : Option Expr} {tl th : TO} {pos p2 : Pos}


/-- what a slice of a value is, by values: the slice object stands at sl -/
def SlR (X : Cx) (r : V → Option Int → Option Int → Hp → VK → Prop) : Prop :=
  ∀ (pins : List (Addr × Obj)) (s : Shared) (σ : St) (H : Hp) (x : V) (v vl vu : Value) (lo hi : Option Int) (sl : Addr) (Q : VK), Inv X pins σ H s → RelV x v → s.heap.IsSliceOf sl vl vu .none → IsPart vl lo → IsPart vu hi → r x lo hi H Q →
    ∃ T id, typeLookup (.type T) "__getitem__" = pure (some (.builtin id)) ∧ s.TypeIs v T ∧ wpAny (model X.prog X.w) X.A (getItem v (.ref sl)) (EP X pins σ Q) X.xe s
def tSl (r : V → Option Int → Option Int → Hp → VK → Prop) (te : TE) (tl th : TO) : TE := fun σ H Q => te σ H fun x H1 => tl σ H1 fun l H2 => th σ H2 fun u H3 => r x l u H3 Q

/-- the items of xs[lo:hi] -/
def cutV (xs : List V) (lo hi : Option Int) : List V := (xs.drop (HT.sIx xs.length 0 lo)).take (HT.sIx xs.length xs.length hi - HT.sIx xs.length 0 lo)
/-- t[lo:hi], not the whole of it (the whole would be t itself) -/
def rSlT (K : PySem.W.Frag) : V → Option Int → Option Int → Hp → VK → Prop := fun x lo hi H Q => ∃ a xs, x = .ref a ∧ SqT K H a xs ∧
  ¬ (HT.sIx xs.length 0 lo = 0 ∧ HT.sIx xs.length xs.length hi = xs.length) ∧ ∀ p, H p = none → Q (.ref p) (upd H p (.tup (cutV xs lo hi)))

/-! ### t < u, t + u -/
def rLtT (K : PySem.W.Frag) : R2 := fun x y H Q => ∃ a b ns ms, x = .ref a ∧ y = .ref b ∧ SqT K H a (ns.map V.int) ∧ SqT K H b (ms.map V.int) ∧ Q (.bl (HT.lexLt ns ms)) H
/-- t + u, t not empty: u empty gives t itself -/
def rCatT (K : PySem.W.Frag) : R2 := fun x y H Q => ∃ a b xs ys, x = .ref a ∧ y = .ref b ∧ SqT K H a xs ∧ SqT K H b ys ∧ xs ≠ [] ∧ xs.length + ys.length ≤ sizeLine ∧
  (ys = [] → Q (.ref a) H) ∧ (ys ≠ [] → ∀ p, H p = none → Q (.ref p) (upd H p (.tup (xs ++ ys))))
end
end L2

namespace L2
open PySem PySem.Spec PyProof.Rows

/-! ### places -/
/-- the place that an index of any sign means -/
def ixN (n : Nat) (i : Int) : Option Nat := if 0 ≤ i then (if i < n then some i.toNat else none) else if -(n : Int) ≤ i then some (i + n).toNat else none
def atI {α : Type} (xs : List α) (i : Int) : Option α := (ixN xs.length i).bind fun j => xs[j]?
theorem ixN_seq {n : Nat} {i : Int} {j : Nat} (h : ixN n i = some j) : seqIndex? i n = some j ∧ j < n ∧ -(n : Int) ≤ i ∧ i < n := by
  unfold ixN at h
  by_cases h0 : 0 ≤ i
  · rw [if_pos h0] at h
    by_cases h1 : i < n
    · rw [if_pos h1] at h
      have e : i.toNat = j := Option.some.inj h
      exact ⟨by rw [seqIndex_of h0 h1, e], by omega, by omega, h1⟩
    · rw [if_neg h1] at h; cases h
  · rw [if_neg h0] at h
    by_cases h1 : -(n : Int) ≤ i
    · rw [if_pos h1] at h
      have e : (i + n).toNat = j := Option.some.inj h
      exact ⟨by rw [seqIndex_neg (by omega) h1, e], by omega, h1, by omega⟩
    · rw [if_neg h1] at h; cases h
theorem atI_get {α : Type} {xs : List α} {i : Int} {v : α} (h : atI xs i = some v) : ∃ j, seqIndex? i xs.length = some j ∧ xs[j]? = some v ∧ j < xs.length ∧ -(xs.length : Int) ≤ i ∧ i < xs.length := by
  unfold atI at h
  cases e : ixN xs.length i with
  | none => rw [e] at h; cases h
  | some j =>
    rw [e] at h
    obtain ⟨h1, h2, h3, h4⟩ := ixN_seq e
    exact ⟨j, h1, h, h2, h3, h4⟩
theorem atI_nat {α : Type} {xs : List α} {j : Nat} {v : α} (h : xs[j]? = some v) : atI xs (j : Int) = some v := by
  have hj : j < xs.length := (List.getElem?_eq_some_iff.mp h).1
  have e : ixN xs.length (j : Int) = some j := by
    unfold ixN
    rw [if_pos (by omega), if_pos (by omega)]; simp
  unfold atI; rw [e]; exact h

/-! ### what may be subscripted -/
/-- what stands as an index of a plain subscript -/
def PlainIx (b : Expr) : Prop := ∀ o i, subscripted b false o i = operate [o, i] (getItem o i)
/-- a subscript by values -/
def IxR (X : Cx) (r : R2) : Prop :=
  ∀ (value slice : Expr) (pins : List (Addr × Obj)) (s : Shared) (σ : St) (H : Hp) (x y : V) (v u : Value) (Q : VK), Inv X pins σ H s → RelV x v → RelV y u → r x y H Q →
    subscripted slice false v u = operate [v, u] (getItem v u) → wpAny (model X.prog X.w) X.A (subscriptTail value slice v u) (EP X pins σ Q) X.xe s
/-- a call of a builtin's method by values: the receiver, the arguments -/
def MtR (X : Cx) (id : String) (r : V → List V → Hp → VK → Prop) : Prop :=
  ∀ (pins : List (Addr × Obj)) (s : Shared) (σ : St) (H : Hp) (x : V) (xs : List V) (v : Value) (us : List Value) (Q : VK), Inv X pins σ H s → RelV x v → Vals xs us → r x xs H Q →
    wpAny (model X.prog X.w) X.A (call (.builtin id) (v :: us)) (EP X pins σ Q) X.xe s
section
variable {X : Cx} {a b : Expr} {ta tb : TE} {pos : Pos}
/-- a[b] -/
theorem pe_ix {r : R2} (hr : IxR X r) (ha : PE X a ta) (hb : PE X b tb) (hs : PlainIx b) : PE X (.Subscript a b pos) (tOp r ta tb) := by
  intro pins s σ H Q I h
  exact Subscript_ (binT ha hb I h fun v u s2 x y H2 I2 rx ry q => hr a b pins s2 σ H2 x y v u Q I2 rx ry q (hs _ _))

def rIxL (K : PySem.W.Frag) : R2 := fun x y H Q => ∃ p xs i v, x = .ref p ∧ y = .int i ∧ SqL K H p xs ∧ atI xs i = some v ∧ Q v H
def rIxT (K : PySem.W.Frag) : R2 := fun x y H Q => ∃ p xs i v, x = .ref p ∧ y = .int i ∧ SqT K H p xs ∧ atI xs i = some v ∧ Q v H
def rIxS : R2 := fun x y H Q => ∃ z i c, x = .str z ∧ y = .int i ∧ z.length ≤ sizeLine ∧ atI z.cps.toList i = some c ∧ Q (.str ⟨#[c]⟩) H
theorem ix_list : IxR X (rIxL X.K) := by
  intro value slice pins s σ H x y v u Q I rx ry h hs
  obtain ⟨p, xs, i, z, rfl, rfl, hq, he, q⟩ := h
  cases rx
  obtain ⟨t, rfl⟩ := ry
  obtain ⟨its, r, pl, hz⟩ := I.list hq
  obtain ⟨j, h1, h2, h3, h4, h5⟩ := atI_get he
  obtain ⟨w, ew, rw'⟩ := r.get h2
  have hl := r.length
  have hn := line63
  have fin : EP X pins σ Q w s := ⟨z, H, I, rw', q⟩
  by_cases h0 : 0 ≤ i
  · have hj : i.toNat = j := by
      rw [seqIndex_of h0 h5] at h1
      exact Option.some.inj h1
    exact item_listR pl.isList h0 (by omega) (by rw [hj]; simpa using ew) fin hs
  · have hj : (i + (its.toArray.size : Int)).toNat = j := by
      rw [seqIndex_neg (by omega) h4] at h1
      rw [List.size_toArray, ← hl]
      exact Option.some.inj h1
    exact subscriptTail_builtinR (x := w) pl.isList.typeIs slot_list_getitem.lookup
      (wpAny_getItem_list_neg (Q := fun r s' => r = w ∧ EP X pins σ Q r s') pl.isList (by omega) (by rw [List.size_toArray] <;> omega) (by omega) (by rw [hj]; simpa using ew) ⟨rfl, fin⟩) hs
/-- list, tuple or str -/
def rIx (K : PySem.W.Frag) : R2 := fun x y H Q => rIxL K x y H Q ∨ rIxT K x y H Q ∨ rIxS x y H Q

/-! ### xs[i] = v, any sign -/
/-- the list's object behind a store -/
theorem mapSeq_set (its : List Value) (n j : Nat) (u : Value) : Obj.mapSeq (·.setIfInBounds j u) { cls := .type "list", data := .seq its.toArray n } = { cls := .type "list", data := .seq (its.set j u).toArray n } := by
  simp [Obj.mapSeq]
theorem Inv.lst {pins : List (Addr × Obj)} {σ : St} {H : Hp} {s : Shared} {p : Addr} {xs : List V} (I : Inv X pins σ H s) (h : H p = some (.lst xs)) :
    ∃ (its : List Value) (n : Nat), Vals xs its ∧ s.heap.get? p = some { cls := .type "list", data := .seq its.toArray n } ∧ xs.length ≤ sizeLine := by
  obtain ⟨z, its, n, r, e⟩ := I.hok p _ h
  exact ⟨its, n, r, e, z⟩
/-- the list at p is written by an update of its object -/
theorem Inv.lstUpd {pins : List (Addr × Obj)} {σ : St} {H : Hp} {s : Shared} {p : Addr} {xs ys : List V} {its its' : List Value} {n n' : Nat} {f : Obj → Obj} (I : Inv X pins σ H s) (h : H p = some (.lst xs))
    (ho : s.heap.get? p = some { cls := .type "list", data := .seq its.toArray n }) (hf : f { cls := .type "list", data := .seq its.toArray n } = { cls := .type "list", data := .seq its'.toArray n' }) (r : Vals ys its') (hz : ys.length ≤ sizeLine) (t : Nat) :
    Inv X pins σ (upd H p (.lst ys)) { s with heap := s.heap.update p f, toks := t } := by
  have e : (s.heap.update p f).get? p = some { cls := .type "list", data := .seq its'.toArray n' } := by
    rw [Heap.get?_update_self f ho (by rw [hf] <;> rfl), hf]
  refine I.write (x := p) (e := p) (by rw [h]; trivial) (.inl rfl) (fun b u hb q => (Heap.get?_update_other _ _ (Ne.symm hb)).trans q) ⟨_, e⟩ ?_
  exact ⟨hz, its', n', r, e⟩
def rSetL : V → V → V → Hp → (Hp → Prop) → Prop := fun o i v H Q => ∃ p xs k j, o = .ref p ∧ i = .int k ∧ H p = some (.lst xs) ∧ ixN xs.length k = some j ∧ Q (upd H p (.lst (xs.set j v)))
theorem set_list : PSet X rSetL := by
  intro pins s σ H o i v ov iv u Q I ro ri rv h
  obtain ⟨p, xs, k, j, rfl, rfl, hp, hj, q⟩ := h
  cases ro
  obtain ⟨t, rfl⟩ := ri
  obtain ⟨its, n, r, ho, hz⟩ := I.lst hp
  obtain ⟨h1, h2, h3, h4⟩ := ixN_seq hj
  have hl := r.length
  have hn := line63
  have I' : Inv X pins σ (upd H p (.lst (xs.set j v))) { s with heap := s.heap.update p (Obj.mapSeq (·.setIfInBounds j u)) } :=
    I.lstUpd hp ho (mapSeq_set its n j u) (r.set rv j) (by rw [List.length_set]; exact hz) s.toks
  by_cases h0 : 0 ≤ k
  · have hk : k.toNat = j := by
      rw [seqIndex_of h0 h4] at h1
      exact Option.some.inj h1
    exact PySem.W.ki_setAt ho h0 (by omega) (by rw [List.size_toArray, ← hl]; exact h4) (by rw [hk]; exact ⟨_, I', q⟩)
  · have hk : (k + (its.toArray.size : Int)).toNat = j := by
      rw [seqIndex_neg (by omega) h3] at h1
      rw [List.size_toArray, ← hl]
      exact Option.some.inj h1
    exact PySem.W.ki_setBack ho (by omega) (by rw [List.size_toArray, ← hl]; exact h3) (by omega) (by rw [hk]; exact ⟨_, I', q⟩)

/-! ### slices -/
/-- xs[lo:hi] of a list: a new list -/
def rSlL (K : PySem.W.Frag) : V → Option Int → Option Int → Hp → VK → Prop := fun x lo hi H Q => ∃ a xs, x = .ref a ∧ SqL K H a xs ∧ ∀ p, H p = none → Q (.ref p) (upd H p (.lst (cutV xs lo hi)))

/-! ### in, not in: flat items -/
def flatV : V → Bool
  | .non => true
  | .bl _ => true
  | .int _ => true
  | .str _ => true
  | _ => false
/-- == of flat values -/
def eqV : V → V → Bool
  | .non, .non => true
  | .bl a, .bl b => a == b
  | .bl a, .int b => (if a then 1 else 0) == b
  | .int a, .bl b => a == (if b then 1 else 0)
  | .int a, .int b => a == b
  | .str a, .str b => a == b
  | _, _ => false
theorem eqAt_V {A : Around} {s : Shared} {y x : V} {u v : Value} (ry : RelV y u) (rx : RelV x v) (fy : flatV y = true) (fx : flatV x = true) : SeqAt.EqAt A s u v (eqV y x) := by
  cases y with
  | non =>
    cases ry
    cases x with
    | non => cases rx; exact SeqAt.EqAt.same _
    | bl b => cases rx; exact SeqAt.EqAt.none_bool b
    | int b => obtain ⟨t, rfl⟩ := rx; exact SeqAt.EqAt.none_int b t
    | str b => obtain ⟨t, rfl⟩ := rx; exact SeqAt.EqAt.none_str b t
    | _ => exact absurd (show false = true from fx) Bool.false_ne_true
  | bl a =>
    cases ry
    cases x with
    | non => cases rx; exact SeqAt.EqAt.bool_none a
    | bl b => cases rx; exact SeqAt.EqAt.bool_bool a b
    | int b => obtain ⟨t, rfl⟩ := rx; exact SeqAt.EqAt.bool_int a b t
    | str b => obtain ⟨t, rfl⟩ := rx; exact SeqAt.EqAt.bool_str a b t
    | _ => exact absurd (show false = true from fx) Bool.false_ne_true
  | int a =>
    obtain ⟨t', rfl⟩ := ry
    cases x with
    | non => cases rx; exact SeqAt.EqAt.int_none a t'
    | bl b => cases rx; exact SeqAt.EqAt.int_bool a t' b
    | int b => obtain ⟨t, rfl⟩ := rx; exact SeqAt.EqAt.int_int a t' b t
    | str b => obtain ⟨t, rfl⟩ := rx; exact SeqAt.EqAt.int_str a t' b t
    | _ => exact absurd (show false = true from fx) Bool.false_ne_true
  | str a =>
    obtain ⟨t', rfl⟩ := ry
    cases x with
    | non => cases rx; exact SeqAt.EqAt.str_none a t'
    | bl b => cases rx; exact SeqAt.EqAt.str_bool a t' b
    | int b => obtain ⟨t, rfl⟩ := rx; exact SeqAt.EqAt.str_int a t' b t
    | str b => obtain ⟨t, rfl⟩ := rx; exact SeqAt.EqAt.str_str a t' b t
    | _ => exact absurd (show false = true from fx) Bool.false_ne_true
  | _ => exact absurd (show false = true from fy) Bool.false_ne_true
/-- the items' answers, read off the values (a value's own answer does not lean on its token) -/
def eqU (x : V) (u : Value) : Bool := match u with
  | .none => eqV .non x
  | .bool b => eqV (.bl b) x
  | .int i _ => eqV (.int i) x
  | .str z _ => eqV (.str z) x
  | _ => false
def inV (x : V) (xs : List V) : Bool := xs.any fun y => eqV y x
/-- x in a list or tuple of flat items -/
def rIn (K : PySem.W.Frag) (neg : Bool) : R2 := fun x y H Q => ∃ p xs, y = .ref p ∧ (SqL K H p xs ∨ SqT K H p xs) ∧ flatV x = true ∧ xs.all flatV = true ∧ Q (.bl (if neg then !inV x xs else inV x xs)) H

/-! ### len, list(x), tuple(x) of any list or tuple that is read -/
theorem call_len_seq : CallR X (.builtin "len") (fun xs H Q => ∃ p ys, xs = [.ref p] ∧ (SqL X.K H p ys ∨ SqT X.K H p ys) ∧ Q (.int ys.length) H) := by
  intro pins s σ H xs us Q I r h
  obtain ⟨p, ys, rfl, hq, q⟩ := h
  obtain ⟨u, rfl, rx⟩ := vals1 r
  cases rx
  have hn := line63
  rcases hq with hq | hq
  · obtain ⟨its, r', pl, hz⟩ := I.list hq
    have hlen := r'.length
    exact Calls.call_len_list pl.isList (by simp only [List.size_toArray] <;> omega) ⟨.int ys.length, H, I.tok _, ⟨s.toks + 1, by rw [List.size_toArray, hlen]⟩, q⟩
  · obtain ⟨its, r', pl, hz⟩ := I.tuple hq
    have hlen := r'.length
    exact len_tuple pl (by simp only [List.size_toArray] <;> omega) ⟨.int ys.length, H, I.tok _, ⟨s.toks + 1, by rw [List.size_toArray, hlen]⟩, q⟩
theorem call_len_str : CallR X (.builtin "len") (fun xs H Q => ∃ z, xs = [.str z] ∧ z.length ≤ sizeLine ∧ Q (.int z.length) H) := by
  intro pins s σ H xs us Q I r h
  obtain ⟨z, rfl, hz, q⟩ := h
  obtain ⟨u, rfl, t, rfl⟩ := vals1 r
  have hn := line63
  exact len_str (by omega) ⟨.int z.length, H, I.tok _, ⟨_, rfl⟩, q⟩

/-! ### the call of a builtin's method: o.m(..) -/
/-- the value is of that builtin type -/
def tyV (K : PySem.W.Frag) (T : String) (x : V) (H : Hp) : Prop := match x with
  | .str _ => T = "str"
  | .int _ => T = "int"
  | .ref p => (T = "list" ∧ ∃ xs, SqL K H p xs) ∨ (T = "tuple" ∧ ∃ o, K.lookup p = some o ∧ o.cls = .type "tuple" ∧ o.dict = none) ∨
      (T = "dict" ∧ ((∃ kvs, H p = some (.dK kvs)) ∨ ∃ kvs, H p = some (.dT kvs))) ∨ (T = "set" ∧ ∃ S n, H p = some (.set S n))
  | _ => False
theorem tyV_is {pins : List (Addr × Obj)} {σ : St} {H : Hp} {s : Shared} {T : String} {x : V} {v : Value} (I : Inv X pins σ H s) (r : RelV x v) (ty : tyV X.K T x H) :
    s.TypeIs v T ∧ ∀ a, v = .ref a → ∃ ob, s.heap.get? a = some ob ∧ ob.dict = none := by
  cases x with
  | str z =>
    obtain ⟨t, rfl⟩ := r
    cases (show T = "str" from ty)
    exact ⟨typeIs_str s z t, fun _ e => nomatch e⟩
  | int i =>
    obtain ⟨t, rfl⟩ := r
    cases (show T = "int" from ty)
    exact ⟨typeIs_int s i t, fun _ e => nomatch e⟩
  | ref p =>
    cases r
    rcases ty with ⟨rfl, xs, hq⟩ | ⟨rfl, o, hk, hc, hd⟩ | ⟨rfl, hk⟩ | ⟨rfl, S, n, hk⟩
    · obtain ⟨its, _, pl, _⟩ := I.list hq
      refine ⟨pl.isList.typeIs, fun a e => ?_⟩
      cases e
      obtain ⟨o, n, e, c, hd, _⟩ := pl
      exact ⟨o, e, hd⟩
    · refine ⟨⟨o, I.kIn p o hk, hc⟩, fun a e => ?_⟩
      cases e
      exact ⟨o, I.kIn _ o hk, hd⟩
    · have z : ∃ o, s.heap.get? p = some o ∧ o.ExactDict := by
        rcases hk with ⟨kvs, hk⟩ | ⟨kvs, hk⟩
        · obtain ⟨_, _, _, _, o, _, _, e, ex, _⟩ := I.hok p _ hk
          exact ⟨o, e, ex⟩
        · obtain ⟨_, _, _, _, o, _, _, e, ex, _⟩ := I.hok p _ hk
          exact ⟨o, e, ex⟩
      obtain ⟨o, e, ex⟩ := z
      refine ⟨⟨o, e, ex.1⟩, fun a e2 => ?_⟩
      cases e2
      exact ⟨o, e, ex.2.1⟩
    · obtain ⟨o, _, _, _, e, ex, _⟩ := I.hok p _ hk
      refine ⟨⟨o, e, ex.1⟩, fun a e2 => ?_⟩
      cases e2
      exact ⟨o, e, ex.2.1⟩
  | _ => exact False.elim ty
def tBM0 (K : PySem.W.Frag) (T : String) (r : V → List V → Hp → VK → Prop) (to : TE) : TE := fun σ H Q => to σ H fun x H1 => tyV K T x H1 ∧ r x [] H1 Q
def tBM (K : PySem.W.Frag) (T : String) (r : V → List V → Hp → VK → Prop) (to : TE) (t : TA) : TE := fun σ H Q => to σ H fun x H1 => tyV K T x H1 ∧ t σ H1 fun xs H2 => r x xs H2 Q
variable {o e : Expr} {es : List Expr} {to : TE} {t : TA} {name : Str} {apos cpos : Pos} {T id : String} {r : V → List V → Hp → VK → Prop}
theorem pe_bm0 (pa : PlainAttrs T) (slot : Slot T name id) (hty : typeOf (.builtin id) = pure (.type "method_descriptor")) (hm : MtR X id r) (ho : PE X o to)
    (hbase : attributeBase o name X.env (eval o X.env) = eval o X.env := by rfl) (hline : (apos.endLine == cpos.line) = true := by rfl) : PE X (.Call (.Attribute o name apos) [] [] cpos) (tBM0 X.K T r to) := by
  intro pins s σ H Q I h
  refine wpAny_Call_method0_late hbase hline (thn (ho pins s σ H _ I h) fun v s1 ⟨x, H1, I1, r1, ty, q1⟩ => ?_)
  obtain ⟨h1, h2⟩ := tyV_is I1 r1 ty
  exact ⟨T, id, pa, slot, hty, h1, h2, Calls.callWith_builtin rfl (PySem.evalArgs_none (hm pins s1 σ H1 x [] v [] Q I1 r1 .nil q1))⟩
theorem pe_bm (pa : PlainAttrs T) (slot : Slot T name id) (hty : typeOf (.builtin id) = pure (.type "method_descriptor")) (hm : MtR X id r) (ho : PE X o to) (ha : PA X (e :: es) t)
    (hbase : attributeBase o name X.env (eval o X.env) = eval o X.env := by rfl)
    (hfew : ((backTo cpos (starEach (e :: es) X.env)).all (fun x => !x.1) && (backToKw cpos (keywordEach [] X.env)).all (fun x => x.1.isSome)
      && decide ((e :: es).length + ([] : List Keyword).length + (if ([] : List Keyword).isEmpty then 0 else 1) < 30)) = true := by rfl)
    (hline : (apos.endLine == cpos.line) = true := by rfl) (hs : starEach (e :: es) X.env = (false, eval e X.env) :: starEach es X.env := by rfl) (hplain : (backTo cpos (starEach es X.env)).any (·.1) = false := by rfl) :
    PE X (.Call (.Attribute o name apos) (e :: es) [] cpos) (tBM X.K T r to t) := by
  intro pins s σ H Q I h
  refine wpAny_Call_method_late hbase hfew hline rfl (thn (ho pins s σ H _ I h) fun v s1 ⟨x, H1, I1, r1, ty, q1⟩ => ?_)
  obtain ⟨h1, h2⟩ := tyV_is I1 r1 ty
  refine ⟨T, id, pa, slot, hty, h1, h2, ?_⟩
  have hA := ha cpos pins s1 σ H1 _ I1 q1
  rw [hs] at hA ⊢
  refine Calls.callWith_builtin (by show (false || (backTo cpos (starEach es X.env)).any (·.1)) = false; rw [hplain] <;> rfl) (Calls.evalArgs_plain ?_)
  exact thn hA fun us s2 ⟨vs, H2, I2, r2, q2⟩ => hm pins s2 σ H2 x vs v us Q I2 r1 r2 q2
/- xs.append(e), list.index on a module's tuple .. are MtR facts of 06m -/
end
end L2

namespace L2
open PySem PySem.Spec PyProof.Rows

def MtM (X : Cx) (id : String) (r : V → List V → Hp → VK → Prop) : Prop :=
  ∀ (pins : List (Addr × Obj)) (s : Shared) (σ : St) (H : Hp) (x : V) (xs : List V) (v : Value) (us : List Value) (Q : VK), Inv X pins σ H s → RelV x v → Vals xs us → r x xs H Q →
    wpAny (model X.prog X.w) X.A (call (.builtin id) (v :: us)) (EP X pins σ Q) X.xe s

/-! ### lists of values -/
theorem Vals.one : ∀ {x : V} {us : List Value}, Vals [x] us → ∃ u, us = [u] ∧ RelV x u
  | _, _, .cons r .nil => ⟨_, rfl, r⟩
theorem Vals.two : ∀ {x y : V} {us : List Value}, Vals [x, y] us → ∃ u v, us = [u, v] ∧ RelV x u ∧ RelV y v
  | _, _, _, .cons r (.cons q .nil) => ⟨_, _, rfl, r, q⟩
theorem Vals.zero : ∀ {us : List Value}, Vals [] us → us = []
  | _, .nil => rfl
theorem Vals.dropLast {xs : List V} {us : List Value} (h : Vals xs us) : Vals xs.dropLast us.dropLast := by
  induction h with
  | nil => exact .nil
  | cons r t ih =>
    cases t with
    | nil => exact .nil
    | cons q t' => exact .cons r ih
theorem Vals.reverse {xs : List V} {us : List Value} (h : Vals xs us) : Vals xs.reverse us.reverse := by
  induction h with
  | nil => exact .nil
  | cons r t ih => rw [List.reverse_cons, List.reverse_cons]; exact Vals.append ih (.cons r .nil)
theorem erase_last {α : Type} (l : List α) : l.eraseIdx (l.length - 1) = l.dropLast := by
  induction l with
  | nil => rfl
  | cons a r ih =>
    cases r with
    | nil => rfl
    | cons b r =>
      have e : (a :: b :: r).length - 1 = ((b :: r).length - 1) + 1 := by
        have h1 : (a :: b :: r).length = r.length + 2 := rfl
        have h2 : (b :: r).length = r.length + 1 := rfl
        omega
      rw [e, List.eraseIdx_cons_succ, ih]
      all_goals rfl

section
variable {X : Cx} {pins : List (Addr × Obj)} {σ : St} {H : Hp} {s : Shared} {l b : Addr} {xs ys zs : List V}

/-! ### the two steps: a tracked list is rewritten, a new list is laid -/
theorem Inv.lset {its its' : List Value} {n : Nat} {f : Array Value → Array Value} {t' : Nat} (I : Inv X pins σ H s) (hH : H l = some (.lst xs))
    (e : s.heap.get? l = some { cls := .type "list", data := .seq its.toArray n }) (hf : f its.toArray = its'.toArray) (hv : Vals ys its') (hz : ys.length ≤ sizeLine) :
    Inv X pins σ (upd H l (.lst ys)) { s with heap := s.heap.update l (Obj.mapSeq f), toks := t' } := by
  have q := PySem.IsL.update e f
  rw [hf] at q
  refine I.write (x := l) (e := l) (by rw [hH]; exact trivial) (.inl rfl) (fun b' u hb hu => (Heap.get?_update_other s.heap (Obj.mapSeq f) (Ne.symm hb)).trans hu) ⟨_, q⟩ ?_
  exact ⟨hz, its', _, hv, q⟩
theorem Inv.lnew {its : List Value} {t' : Nat} (I : Inv X pins σ H s) (hv : Vals ys its) (hz : ys.length ≤ sizeLine) :
    Inv X pins σ (upd H s.heap.objs.size (.lst ys)) { s with heap := s.heap.push { cls := .type "list", data := .seq its.toArray }, toks := t' } :=
  I.laid (fun _ _ q => Heap.get?_push_of_some _ q) (Nat.le_refl _) ⟨hz, its, 0, hv, Heap.get?_push_size _ rfl⟩
theorem Inv.fresh (I : Inv X pins σ H s) : H s.heap.objs.size = none := I.hok.fresh (Nat.le_refl _)
theorem Inv.lstM (I : Inv X pins σ H s) (hH : H l = some (.lst xs)) : xs.length ≤ sizeLine ∧ ∃ (its : List Value) (n : Nat), Vals xs its ∧ xs.length = its.length ∧ s.heap.get? l = some { cls := .type "list", data := .seq its.toArray n } := by
  obtain ⟨z, its, n, r, e⟩ := I.hok l _ hH
  exact ⟨z, its, n, r, r.length, e⟩

end

section
variable {X : Cx}

/-! ### methods -/
def rAppend : V → List V → Hp → VK → Prop := fun x vs H Q => ∃ l xs y, x = .ref l ∧ vs = [y] ∧ H l = some (.lst xs) ∧ xs.length < sizeLine ∧ Q .non (upd H l (.lst (xs ++ [y])))
theorem mt_append : MtM X "list.append" rAppend := by
  intro pins s σ H x vs v us Q I rx rv h
  obtain ⟨l, xs, y, rfl, rfl, hH, hz, q⟩ := h
  cases rx
  obtain ⟨u, rfl, ru⟩ := rv.one
  obtain ⟨z, its, n, r, hl, e⟩ := I.lstM hH
  refine call_meets F.slot_list_append ⟨_, e, rfl⟩ F.entry_list_append (F.args_list_append_2 _ _) (PySem.list_append l its.toArray n u (by rw [List.size_toArray]; omega)) ⟨e, ?_⟩
  refine ⟨.non, _, I.lset (its' := its ++ [u]) hH e (by simp) (r.append (.cons ru .nil)) ?_, rfl, q⟩
  rw [List.length_append, List.length_singleton]
  omega

def rExtend : V → List V → Hp → VK → Prop := fun x vs H Q => ∃ l b xs zs, x = .ref l ∧ vs = [.ref b] ∧ H l = some (.lst xs) ∧ H b = some (.lst zs) ∧ xs.length + zs.length ≤ sizeLine ∧ Q .non (upd H l (.lst (xs ++ zs)))

def rPop : V → List V → Hp → VK → Prop := fun x vs H Q => ∃ l xs y, x = .ref l ∧ vs = [] ∧ H l = some (.lst xs) ∧ xs[xs.length - 1]? = some y ∧ Q y (upd H l (.lst xs.dropLast))
theorem mt_pop : MtM X "list.pop" rPop := by
  intro pins s σ H x vs v us Q I rx rv h
  obtain ⟨l, xs, y, rfl, rfl, hH, hy, q⟩ := h
  cases rx
  have hus := rv.zero
  subst hus
  obtain ⟨z, its, n, r, hl, e⟩ := I.lstM hH
  obtain ⟨u, hu, ru⟩ := r.get hy
  have hy' : its.toArray[its.toArray.size - 1]? = some u := by
    show its.toArray[its.length - 1]? = some u
    rw [← Array.getElem?_toList, ← hl]
    exact hu
  refine call_meets F.slot_list_pop ⟨_, e, rfl⟩ F.entry_list_pop (F.args_list_pop_1 _) (MeetsSeq.list_pop_last l its.toArray n u hy' (by rw [List.size_toArray]; omega)) ⟨e, ?_⟩
  refine ⟨y, _, I.lset (its' := its.dropLast) hH e ?_ r.dropLast ?_, ru, q⟩
  · show its.toArray.eraseIdxIfInBounds (its.toArray.size - 1) = its.dropLast.toArray
    rw [List.size_toArray, List.eraseIdxIfInBounds_toArray, erase_last]
  · rw [List.length_dropLast]
    omega

def rPopAt : V → List V → Hp → VK → Prop := fun x vs H Q => ∃ l xs i k y, x = .ref l ∧ vs = [.int i] ∧ H l = some (.lst xs) ∧ -(2 ^ 63) ≤ i ∧ i < 2 ^ 63 ∧ seqIndex? i xs.length = some k ∧ xs[k]? = some y ∧ Q y (upd H l (.lst (xs.eraseIdx k)))

def rReverse : V → List V → Hp → VK → Prop := fun x vs H Q => ∃ l xs, x = .ref l ∧ vs = [] ∧ H l = some (.lst xs) ∧ Q .non (upd H l (.lst xs.reverse))
theorem mt_reverse : MtM X "list.reverse" rReverse := by
  intro pins s σ H x vs v us Q I rx rv h
  obtain ⟨l, xs, rfl, rfl, hH, q⟩ := h
  cases rx
  have hus := rv.zero
  subst hus
  obtain ⟨z, its, n, r, hl, e⟩ := I.lstM hH
  refine call_meets F.slot_list_reverse ⟨_, e, rfl⟩ F.entry_list_reverse (F.args_list_reverse_1 _) (AutoSeq1.list_reverse_list_0 l its.toArray n (by rw [List.size_toArray]; omega)) ⟨e, ?_⟩
  refine ⟨.non, _, I.lset (its' := its.reverse) hH e (by simp) r.reverse ?_, rfl, q⟩
  rw [List.length_reverse]
  omega

def rClear : V → List V → Hp → VK → Prop := fun x vs H Q => ∃ l xs, x = .ref l ∧ vs = [] ∧ H l = some (.lst xs) ∧ Q .non (upd H l (.lst []))

/-! ### list + list, list += list, list * int -/
def rCat : R2 := fun x y H Q => ∃ l b xs zs, x = .ref l ∧ y = .ref b ∧ H l = some (.lst xs) ∧ H b = some (.lst zs) ∧ xs.length + zs.length ≤ sizeLine ∧ ∀ p, H p = none → Q (.ref p) (upd H p (.lst (xs ++ zs)))
theorem op_cat : OpR X (binaryOp .Add) rCat := by
  intro pins s σ H x y v u Q I rx ry h
  obtain ⟨l, b, xs, zs, rfl, rfl, hH, hB, hz, q⟩ := h
  cases rx
  cases ry
  obtain ⟨z, its, n, r, hl, e⟩ := I.lstM hH
  obtain ⟨z2, its2, n2, r2, hl2, e2⟩ := I.lstM hB
  refine PySem.P.add_list e e2 ?_ (by rw [List.size_toArray, List.size_toArray]; omega)
  have ea : its.toArray ++ its2.toArray = (its ++ its2).toArray := by simp
  rw [ea]
  exact ⟨.ref _, _, I.lnew (t' := s.toks) (r.append r2) (by rw [List.length_append]; omega), rfl, q _ I.fresh⟩
/-- a list times an int (a negative one is nothing) -/
def rRep : R2 := fun x y H Q => ∃ l k xs, x = .ref l ∧ y = .int k ∧ H l = some (.lst xs) ∧ -(2 ^ 63) ≤ k ∧ k < 2 ^ 63 ∧ xs.length * k.toNat ≤ sizeLine ∧
  ∀ p, H p = none → Q (.ref p) (upd H p (.lst (List.replicate k.toNat xs).flatten))

/-! ### del xs[i] -/
end

/-! ### xs[a:b] = ys -/
section
variable {prog : Program} {w : World} {A : Around} {E : Value → Shared → Prop} {s : Shared}
end

section
variable {X : Cx}
end
end L2

namespace Att
open PySem PySem.W PySem.Calls PyProof.Rows

/-! ### the script -/
theorem ints_of_wellAll {P : Params} {h : Heap} : ∀ (ns : List Int) (vs : List Value), WellAll P h vs (ns.map WData.int) → IntsAre vs ns := by
  intro ns
  induction ns with
  | nil =>
    intro vs w
    rw [List.map_nil] at w
    cases w
    exact .nil
  | cons n ns ih =>
    intro vs w
    rw [List.map_cons] at w
    cases w with
    | cons a b =>
      cases a
      exact .cons _ _ (ih _ b)

theorem script_of {l : OpenLaw} {n : Nat} (hn : l.most = some n) {P : Params} {h : Heap} {args : List WData} {vals : List Value}
    (hpre : l.row.toRowW.claim.pre args = true) (hwl : WellAll P h vals args) :
    ∃ a vs ns, vals = [Value.ref a] ∧ args = [WData.list (ns.map WData.int)] ∧ h.get? a = some { cls := .type "list", data := .seq vs.toArray } ∧ IntsAre vs ns ∧ ns.length ≤ n := by
  have hsh : WShape.hasAll [] args [.list .int] = true := (pre_splitW hpre).1
  have hc : l.pre.holds [] { args := args } = true := (pre_splitW hpre).2
  obtain ⟨d, r, rfl, h1, h2⟩ := hasAllW_cons hsh
  obtain rfl := hasAllW_nil h2
  obtain ⟨xs, rfl, h3⟩ := hasW_list h1
  obtain ⟨ns, rfl⟩ := items_int h3
  have hlen : ns.length ≤ n := by
    unfold OpenLaw.pre at hc
    have h4 : (WTm.not (.lt (.lit (.int (n : Int))) (.len (.arg 0)))).holds [] { args := [.list (ns.map .int)] } = true := by
      have h4 := (holds_andW hc).1
      rw [hn] at h4
      exact h4
    have h5 := condW_of h4 (w_not (w_lt w_lit (w_len_list (w_arg rfl))))
    rw [List.length_map] at h5
    refine Nat.le_of_not_lt fun q => ?_
    have q' : (n : Int) < ((ns.length : Nat) : Int) := by omega
    first
      | (rw [decide_eq_true q'] at h5; exact absurd h5 (by decide))
      | (simp at h5; omega)
  cases hwl with
  | cons w1 w2 =>
    cases w2
    cases w1 with
    | list ho hall => exact ⟨_, _, ns, rfl, rfl, ho, ints_of_wellAll ns _ hall, hlen⟩

theorem post_true (l : OpenLaw) (args : List WData) : l.row.toRowW.claim.post args (.bool true) args = true :=
  postW_of (r := l.row.toRowW) (X := (true == true))
    (show WShape.has [] (.bool true) .bool = true by first | rfl | decide | simp [WShape.has, WShape.arms, WShape.armsAll])
    (show (WTm.eq .res (.lit (.bool true))).value [] { args := args, res := some (.bool true), after := args } = some (.bool (true == true)) from w_eq_bool (w_res rfl) w_lit) rfl

/-! ### the attachment: holds_open's last premise (the goal 'hc' behind k_head) from a wpAny of the law's body -/

/-- the same from a codeAny of the CALL (for a layer whose function contracts speak of calls) -/
theorem attach_call {l : OpenLaw} {n : Nat} {q : Program} {loose : List Str} {XP : (Str → Option Value) → Heap → Prop} {YP : World → Heap → Prop} {d : DefRec}
    (hn : l.most = some n) (hdf : d.params.defaults = [])
    (call : ∀ (w : World) (s₀ s₁ : Shared) (mg mb : Str → Option Value) (fa : Addr) (o : Obj) (pm cd doc : Value) (a : Addr) (vs : List Value) (ns : List Int),
      Ground q loose [] XP w s₀ mg mb s₁.heap → YP w s₁.heap →
      s₁.heap.get? fa = some o → o.data = .func (docDef d.name d.params d.body d.scope pm cd doc) → s₁.heap.CodeRec cd d.name → mg d.name = some (.ref fa) →
      s₁.heap.get? a = some { cls := .type "list", data := .seq vs.toArray } → IntsAre vs ns → ns.length ≤ n → s₁.gens = #[] →
      codeAny (model l.prog w) callerA (.call (.ref fa) ⟨[.ref a], []⟩) (fun r s' => r = .ok (.ret (.bool true)) ∧ OldK s₁.heap s'.heap ∧ s'.os = s₁.os ∧ AllBare s'.gens) s₁) :
    WalkO q loose XP YP l.row.toRowW d [] (fun f vs => PySem.call f vs) := by
  intro w s₀ s₁ mg mb G Y fa o pm cd doc dV kV ho hd hcd hD hmg hg args vals as hpre hlay hrd hwl hlo
  obtain rfl : dV = .none := Dflts.none hD hdf
  obtain rfl : kV = .none := Dflts.noKw hD
  obtain ⟨a, vs, ns, rfl, rfl, hobj, hints, hlen⟩ := script_of hn hpre hwl
  refine enter_call (codeAny_mono (call w s₀ s₁ mg mb fa o pm cd doc a vs ns G Y ho (fd_plain hd) hcd hmg hobj hints hlen hg) fun r s' hq => ?_)
  obtain ⟨rfl, h2, h3, h4⟩ := hq
  exact ⟨.inl ⟨.bool true, .bool true, [], rfl, fun _ => rfl, .bool true, post_true l _, fun _ => ⟨List.Pairwise.nil, fun _ hm => (nomatch hm)⟩⟩, h2, h3, h4⟩


/-! ### rules over ANY heap (no ledger) from facts about the written part K: the library's own take a ledger (News) for what they write -/
section
variable {prog : Program} {w : World} {A : Around} {E : Value → Shared → Prop} {s : Shared} {K : Frag}





/-! the whole heap as the ledger: makes every rule that writes through a ledger a rule over any heap -/
def noObjs (h : Heap) : Heap := { h with objs := #[] }
def ledger (h : Heap) (L d : Addr) : List (Addr × Obj) := (List.range h.objs.size).filterMap fun a => if a = L ∨ a = d then none else (h.get? a).map fun o => (a, o)

end
end Att

namespace L2
open PySem PySem.Spec PyProof.Rows

theorem vals_ints : ∀ {vs : List Value} {ns : List Int}, IntsAre vs ns → Vals (ns.map V.int) vs
  | _, _, .nil => .nil
  | _, _, .cons n t h => .cons ⟨t, rfl⟩ (vals_ints h)

/-- nothing is tracked but the script, known to the object (or it is an object of the module) -/
def Only (H : Hp) : Prop := ∀ b, H b = none ∨ ∃ o xs, H b = some (.frz o (.lst xs))

/-- THE HEAD: the law's promise, at the heap behind the top. F, the promise of the law's def, may use that base is part of the heap (so K.In base, base.Ns mainGlobals mg stand in Mod) -/
theorem law_call {P : Program} {w : World} {K : PySem.W.Frag} {mg mb : Str → Option Value} {CX : CXT} {k : Nat} {fa a : Addr} {fd : FuncData} {x : Str} {sp : Sp} {s₁ : Shared} {vs : List Value} {ns : List Int}
    (KX : K.In s₁.heap) (hns : s₁.heap.Ns mainGlobals mg) (hb : s₁.heap.Ns builtinsNs mb) (hbb : ∀ x : Str, x ≠ "__name__" → mb x = bootBuiltins x) (hlim : s₁.heap.NoLimit) (hg : s₁.gens = #[])
    (ha : s₁.heap.get? a = some { cls := .type "list", data := .seq vs.toArray }) (hi : IntsAre vs ns) (hl : ns.length ≤ sizeLine) (hr : Room k callerA)
    (F : ∀ base : Heap, K.In base → base.Ns mainGlobals mg → FnOk P w K mg base CX k fa fd [x] sp) (hbind : ∀ (s : Shared) (u : Value), BindsTo s fd ⟨[u], []⟩ [(x, u)])
    (hsp : ∀ H : Hp, Only H → SqL K H a (ns.map V.int) → sp [.ref a] H (fun v _ => v = .bl true) fun _ _ _ => False)
    (hCX : ∀ H e s', CX [] H s₁ (fun _ _ _ => False) e s' → False) :
    codeAny (model P w) callerA (.call (.ref fa) ⟨[.ref a], []⟩) (fun r s' => r = .ok (.ret (.bool true)) ∧ OldK s₁.heap s'.heap ∧ s'.os = s₁.os ∧ AllBare s'.gens) s₁ := by
  have rv := vals_ints hi
  have lenV := hi.length
  -- from an abstract heap in which nothing but the script may be tracked
  have core : ∀ H : Hp, Only H → SqL K H a (ns.map V.int) → HOk P w H s₁.heap → (∀ b, H b ≠ none → b = a) → (H a ≠ none → K.lookup a = none) →
      codeAny (model P w) callerA (.call (.ref fa) ⟨[.ref a], []⟩) (fun r s' => r = .ok (.ret (.bool true)) ∧ OldK s₁.heap s'.heap ∧ s'.os = s₁.os ∧ AllBare s'.gens) s₁ := by
    intro H hO hS hok hA hK
    have base_of : ∀ {b : Addr} {o : Obj}, s₁.heap.get? b = some o → H b = none → (hidT s₁.heap H).get? b = some o := fun e n => hidT_get e n
    have noA : ∀ {b : Addr} {o : Obj} {es : Array DictEntry} {ep : Nat}, s₁.heap.get? b = some o → o.data = .dict es ep → H b = none := fun {b o es ep} e d => by
      cases q : H b with
      | none => rfl
      | some u =>
        have e' : b = a := hA b (by rw [q]; simp)
        subst e'
        rw [ha] at e; cases e
        have d' : Data.seq vs.toArray _ = Data.dict es ep := d
        cases d'
    have nsK : ∀ {b : Addr} {m : Str → Option Value}, s₁.heap.Ns b m → (hidT s₁.heap H).Ns b m := fun {b m} ⟨o, es, ep, e, d, r⟩ => ⟨o, es, ep, base_of e (noA e d), d, r⟩
    have hKb : K.In (hidT s₁.heap H) := fun b o e => base_of (KX b o e) (by
      cases q : H b with
      | none => rfl
      | some u =>
        have e' : b = a := hA b (by rw [q]; simp)
        subst e'
        rw [hK (by rw [q]; simp)] at e; cases e)
    have hM : Mod K mg (hidT s₁.heap H) := ⟨hKb, nsK hns, ⟨mb, nsK hb, hbb⟩, let ⟨mc, h1, h2⟩ := hlim; ⟨mc, nsK h1, h2⟩⟩
    have e0 : Env0 P w K mg (hidT s₁.heap H) callerA [] s₁ H := ⟨rfl, hM, fun b o e => of_hidT e, Nat.le_of_eq (hidT_size _ _), trivial, fun b hb => absurd (show b ∈ ([] : List Addr) from hb) (by simp), hok, .of_eq hg⟩
    refine codeAny_mono ((F _ hKb (nsK hns)).run callerA [] s₁ H ⟨[.ref a], []⟩ [.ref a] [.ref a] _ _ hr e0 (hbind s₁ (.ref a)) (.cons rfl .nil) (hsp H hO hS)) fun r s' h => ?_
    cases r with
    | error e => exact (hCX H e s' h).elim
    | ok fl =>
      cases fl with
      | next => exact False.elim h
      | brk => exact False.elim h
      | cont => exact False.elim h
      | ret u =>
        obtain ⟨v, H', os, bare, un, hok', r', q⟩ := h
        have q' : v = .bl true := q
        subst q'
        obtain rfl : u = Value.bool true := r'
        refine ⟨rfl, OldK.of_keep fun b o e => ?_, os, bare⟩
        cases q : H b with
        | none => exact un.keep b o e q (by intro z; exact absurd (show b ∈ ([] : List Addr) from z) (by simp)) (by simp)
        | some u =>
          rcases hO b with z | ⟨ob, xs, z⟩
          · rw [q] at z; cases z
          · have z2 := un.frzs b ob _ z
            obtain ⟨e1, _⟩ := hok b _ z
            obtain ⟨e2, _⟩ := hok' b _ z2
            rw [e] at e1; cases e1
            exact e2
  cases hk : K.lookup a with
  | some o =>
    -- the script is one of the module's own objects
    have e := KX a o hk
    rw [ha] at e
    cases e
    refine core (fun _ => none) (fun _ => .inl rfl) (.inr ⟨_, vs.toArray, _, hk, rfl, rfl, rfl, by rw [List.size_toArray, lenV]; exact hl, by simpa using rv⟩) (fun b u z => by have z' : (none : Option HO) = some u := z; cases z') (fun b z => absurd rfl z) fun z => absurd rfl z
  | none =>
    refine core (fun b => if b = a then some (.frz { cls := .type "list", data := .seq vs.toArray } (.lst (ns.map V.int))) else none) (fun b => ?_) (.inl (.inr ⟨{ cls := .type "list", data := .seq vs.toArray }, if_pos rfl⟩)) (fun b u z => ?_) (fun b z => ?_) fun _ => hk
    · by_cases hb : b = a
      · exact .inr ⟨_, _, if_pos hb⟩
      · exact .inl (if_neg hb)
    · by_cases hb : b = a
      · have z' := (if_pos hb).symm.trans z
        cases z'
        subst hb
        exact ⟨ha, by rw [List.length_map]; exact hl, vs, _, rv, ha⟩
      · have z' := (if_neg hb).symm.trans z
        cases z'
    · by_cases hb : b = a
      · exact hb
      · exact absurd (if_neg hb) z
end L2

namespace L2
open PySem PySem.Spec PyProof.Rows

abbrev KOf {K : PySem.W.Frag} {h : Heap} (_ : K.In h) : PySem.W.Frag := K

/-- the goal that k_head leaves (case hc), from the law's promise. F gives the function object fd (K's own) once, then the promise over every base -/
theorem walk_of {l : PySem.W.OpenLaw} {n k : Nat} {q : Program} {loose : List Str} {XP : (Str → Option Value) → Heap → Prop} {YP : World → Heap → Prop} {d : DefRec} {K : Params → PySem.W.Frag} {CX : World → CXT} {sp : World → Sp} {x : Str}
    (hn : l.most = some n) (hn2 : n ≤ sizeLine) (hdf : d.params.defaults = []) (hr : Room k callerA)
    (hY : ∀ (w : World) (h : Heap), YP w h → (K w.params).In h)
    (F : ∀ (w : World) (mg : Str → Option Value) (fa : Addr) (h : Heap), (K w.params).In h → h.Ns mainGlobals mg → mg d.name = some (.ref fa) →
      ∃ fd : FuncData, (∀ (s : Shared) (u : Value), BindsTo s fd ⟨[u], []⟩ [(x, u)]) ∧
        ∀ base : Heap, (K w.params).In base → base.Ns mainGlobals mg → FnOk l.prog w (K w.params) mg base (CX w) k fa fd [x] (sp w))
    (hsp : ∀ (w : World) (H : Hp) (a : Addr) (ns : List Int), ns.length ≤ n → Only H → SqL (K w.params) H a (ns.map V.int) → sp w [.ref a] H (fun v _ => v = .bl true) fun _ _ _ => False)
    (hCX : ∀ (w : World) (H : Hp) (s : Shared) (e : Value) (s' : Shared), CX w [] H s (fun _ _ _ => False) e s' → False) :
    PySem.W.WalkO q loose XP YP l.row.toRowW d [] (fun f vs => PySem.call f vs) := by
  refine Att.attach_call hn hdf fun w s₀ s₁ mg mb fa o pm cd doc a vs ns G Y ho hd hcd hmg hobj hints hlen hg => ?_
  have KX := hY w _ Y
  obtain ⟨fd, hb, hF⟩ := F w mg fa _ KX G.T.g hmg
  exact law_call KX G.T.g G.T.b G.T.builtins G.T.nolimit hg hobj hints (Nat.le_trans hlen hn2) hr hF hb (fun H hO hS => hsp w H a ns hlen hO hS) fun H e s' => hCX w H s₁ e s'
end L2

/- THE LAST THEOREM (shape; LID, My.* are yours):
   My.Adr: a structure of the addresses that your layer names (classes, functions); My.Txt K t: a structure (Prop) of the equations over K;
   My.txt_mk : {K} {implicit addresses ..} (e1 : nsIn K mainGlobals "law" = some (some (.ref f))) (e2 : K.lookup f = some ⟨oc, od, .func (fnOf "law" "law" params body scope dV kV doc pm an cdv ct), sl⟩) (e3 : codeIn K cdv "law" = true) .. : ∃ t, My.Txt K t

set_option maxRecDepth 100000 in
set_option maxHeartbeats 0 in
theorem PySem.Challenge.cw_LID_holds : PySem.Challenge.rw_LID.Holds := by
  w_on; o_law; k_head; (case hw => w_witness2)
  k_fill
  refine L2.walk_of (l := PySem.Challenge.rw_LID) (n := 63) (k := 40) (x := "script") (CX := fun w => ..) (sp := fun _ => My.sp_law) rfl (by decide) rfl ⟨rfl, by decide, by decide⟩ (fun w h Y => PySem.W.kIn_of Y) ?F ?S ?C
  case F =>
    intro w mg fa h KX G hmg
    have T : ∃ t, My.Txt (L2.KOf KX) t := by
      dsimp only [L2.KOf]                          -- K must stand as «<heap const> w.params» for k_is
      refine' My.txt_mk ?e1 ?e2 ?e3 ..
      (case e1 => PySem.W.k_is)                    -- in the order: a name -> its address -> its object -> its parts
      (case e2 => PySem.W.k_is)
      ..
    obtain ⟨t, T⟩ := T
    have e0 := hmg.symm.trans (PySem.W.mg_of KX G T.law)
    cases e0                                       -- fa is the law's own address
    exact ⟨_, fun s u => .of_eq rfl, fun base kb nb => My.law_fn T kb nb⟩     -- if «.of_eq rfl» comes too early: refine' ⟨_, ?b, fun base kb nb => My.law_fn T kb nb⟩; exact fun s u => .of_eq rfl
  case S => exact fun w H a ns hl hO hS => ..
  case C => exact ..
(the tactic k_is has no namespace: write k_is) -/

/-! SHORT WORDS over the layer: a def of the text, its body, what a loop and a test want. -/
namespace L2
open PySem PySem.Spec PyProof.Rows

/-! ### the text by places -/
/-- the j-th statement of a class's body -/
def inClass (s : Stmt) (j : Nat) : Stmt := match s with
  | .ClassDef _ _ _ body _ _ _ _ _ _ _ => body.getD j (.Pass ⟨0, 0, 0, 0⟩)
  | _ => .Pass ⟨0, 0, 0, 0⟩
def defArgs (s : Stmt) : Arguments := match s with
  | .FunctionDef _ a _ _ _ _ _ _ _ _ => a
  | _ => { posonlyargs := [], args := [], vararg := none, kwonlyargs := [], kw_defaults := [], kwarg := none, defaults := [] }
def defBody (s : Stmt) : List Stmt := match s with
  | .FunctionDef _ _ b _ _ _ _ _ _ _ => b
  | _ => []
def defScope (s : Stmt) : Scope := match s with
  | .FunctionDef _ _ _ _ _ _ sc _ _ _ => sc
  | _ => { kind := .function, names := [], isGenerator := false, isCoroutine := false }

/-! ### no exception leaves a def -/
abbrev CX0 : CXT := fun _ _ _ _ _ _ => False
abbrev E0 : XK := fun _ _ _ => False
theorem pass0 {X : Cx} : Passes CX0 X E0 := fun _ _ _ _ _ _ _ h => h.elim

/-! ### a def (or method) of the text as it stands behind the top -/
structure Fun (K : PySem.W.Frag) (x qual : Str) (st : Stmt) (f : Addr) (fd : FuncData) : Prop where
  ex : ∃ (oc : Value) (od : Option Addr) (kV doc pm : Value) (an : Option Addr) (cdv ct : Value) (osl : Array (Option Value)),
    fd = PySem.W.fnOf x qual (defArgs st) (defBody st) (defScope st) .none kV doc pm an cdv ct ∧ K.lookup f = some ⟨oc, od, .func fd, osl⟩ ∧ PySem.W.codeIn K cdv qual = true
  kp : PySem.W.keepIn K (.ref f) = true
section
variable {P : Program} {w : World} {K : PySem.W.Frag} {mg : Str → Option Value} {base : Heap}
end
theorem small1000 {n : Nat} (h : n ≤ 1000) : n < sizeLine := Nat.lt_of_le_of_lt h (by decide)

/-! ### expressions in short: the name that stands in the i-th slot -/
section
variable {X : Cx}
theorem pv (i : Nat) {x : Str} {pos : Pos} (hN : X.N[i]? = some x := by rfl) (hv : Vis X.env.scope x := by first | exact Or.inl rfl | exact Or.inr (Or.inl rfl) | exact Or.inr (Or.inr rfl)) (hd : (x == ("__debug__" : Str)) = false := by decide)
    (hcd : (x == ("__classdict__" : Str)) = false := by decide) : PE X (.Name x pos) (tVar i) := pe_var hN hv hd hcd
end

/-! ### tests -/
theorem iteF {A B : Prop} (h : B) : if false = true then A else B := by
  rw [if_neg Bool.false_ne_true]
  exact h
theorem iteT {A B : Prop} (h : A) : if true = true then A else B := by
  rw [if_pos rfl]
  exact h
theorem ite2 {c A B : Prop} [Decidable c] (h1 : c → A) (h2 : ¬ c → B) : if c then A else B := by
  by_cases h : c
  · rw [if_pos h]
    exact h1 h
  · rw [if_neg h]
    exact h2 h

/-! ### heaps -/
/-- all that was tracked is as it was -/
def Same (H H' : Hp) : Prop := ∀ b o, H b = some o → H' b = some o
theorem Same.refl (H : Hp) : Same H H := fun _ _ h => h
theorem Same.trans {H H1 H2 : Hp} (a : Same H H1) (b : Same H1 H2) : Same H H2 := fun c o h => b c o (a c o h)
theorem Same.free {H H' : Hp} (e : Same H H') {l : Addr} (h : H' l = Option.none) : H l = Option.none := by
  cases q : H l with
  | none => rfl
  | some o =>
    rw [e l o q] at h
    cases h
theorem Same.seq {K : PySem.W.Frag} {H H' : Hp} {a : Addr} {xs : List V} (e : Same H H') (h : SqL K H a xs) : SqL K H' a xs := by
  rcases h with (h | ⟨o, h⟩) | h
  · exact .inl (.inl (e _ _ h))
  · exact .inl (.inr ⟨o, e _ _ h⟩)
  · exact .inr h

end L2

set_option Elab.async false
set_option linter.all false
set_option maxRecDepth 100000
namespace L2
open PySem PySem.Spec PyProof.Rows

/-! ## A list comprehension of one clause, in a def's body -/
/-- the cells a block closes over -/
def closAcc (env : Env) : List (Str × NameKind) → List (Str × Addr) → List (Str × Addr)
  | [], acc => acc
  | (n, k) :: r, acc => if k == .free then (match env.cells.lookup n with | some c => closAcc env r ((n, c) :: acc) | none => closAcc env r acc) else closAcc env r acc
def closOf (scope : Scope) (env : Env) : List (Str × Addr) := closAcc env scope.names []

theorem closAcc_in {env : Env} : ∀ (ns : List (Str × NameKind)) (acc : List (Str × Addr)), (∀ x c, (x, c) ∈ acc → env.cells.lookup x = some c) → ∀ x c, (x, c) ∈ closAcc env ns acc → env.cells.lookup x = some c
  | [], acc, h, x, c, hm => h x c hm
  | (n, k) :: r, acc, h, x, c, hm => by
    unfold closAcc at hm
    split at hm
    · split at hm
      · rename_i c' e
        refine closAcc_in r _ (fun y d hy => ?_) x c hm
        rcases List.mem_cons.mp hy with z | z
        · cases z; exact e
        · exact h y d z
      · exact closAcc_in r acc h x c hm
    · exact closAcc_in r acc h x c hm
theorem lookup_mem {α β : Type} [BEq α] [LawfulBEq α] : ∀ {l : List (α × β)} {x : α} {c : β}, l.lookup x = some c → (x, c) ∈ l
  | [], _, _, h => by simp at h
  | (y, d) :: r, x, c, h => by
    rw [List.lookup_cons] at h
    cases e : x == y with
    | true => rw [e] at h; simp at h; rw [eq_of_beq e, h]; exact List.mem_cons_self
    | false => rw [e] at h; exact List.mem_cons_of_mem _ (lookup_mem h)
theorem mem_lookup {α β : Type} [BEq α] [LawfulBEq α] : ∀ {l : List (α × β)} {x : α} {c : β}, (x, c) ∈ l → ∃ d, l.lookup x = some d
  | (y, d) :: r, x, c, h => by
    rw [List.lookup_cons]
    cases e : x == y with
    | true => exact ⟨d, rfl⟩
    | false =>
      rcases List.mem_cons.mp h with z | z
      · cases z; simp at e
      · exact mem_lookup z
theorem clos_sub {scope : Scope} {env : Env} {x : Str} {c : Addr} (h : (closOf scope env).lookup x = some c) : env.cells.lookup x = some c :=
  closAcc_in scope.names [] (fun _ _ z => nomatch z) x c (lookup_mem h)
theorem closAcc_acc {env : Env} : ∀ (ns : List (Str × NameKind)) (acc : List (Str × Addr)) (p : Str × Addr), p ∈ acc → p ∈ closAcc env ns acc
  | [], _, _, h => h
  | (n, k) :: r, acc, p, h => by
    unfold closAcc
    split
    · split
      · exact closAcc_acc r _ p (List.mem_cons_of_mem _ h)
      · exact closAcc_acc r acc p h
    · exact closAcc_acc r acc p h
theorem closAcc_has {env : Env} : ∀ (ns : List (Str × NameKind)) (acc : List (Str × Addr)) (x : Str) (c : Addr), (x, NameKind.free) ∈ ns → env.cells.lookup x = some c → (x, c) ∈ closAcc env ns acc
  | (n, k) :: r, acc, x, c, h, e => by
    unfold closAcc
    rcases List.mem_cons.mp h with z | z
    · cases z
      rw [if_pos (by decide), e]
      exact closAcc_acc r _ _ List.mem_cons_self
    · split
      · split
        · exact closAcc_has r _ x c z e
        · exact closAcc_has r acc x c z e
      · exact closAcc_has r acc x c z e
theorem clos_eq {scope : Scope} {env : Env} {x : Str} {c : Addr} (h : scope.names.lookup x = some .free) (e : env.cells.lookup x = some c) : (closOf scope env).lookup x = some c := by
  obtain ⟨d, hd⟩ := mem_lookup (closAcc_has scope.names [] x c (lookup_mem h) e)
  have q := clos_sub (scope := scope) hd
  rw [e] at q
  cases q
  exact hd
theorem forIn_clos {env : Env} : ∀ (ns : List (Str × NameKind)) (acc : List (Str × Addr)), (∀ x ∈ ns, x.2 = .free → ∃ c, env.cells.lookup x.1 = some c) →
    (forIn ns acc fun (x : Str × NameKind) (r : List (Str × Addr)) => if (x.2 == NameKind.free) = true then (do let a ← cellOf env x.1; pure (ForInStep.yield ((x.1, a) :: r))) else (pure (ForInStep.yield r) : Sem _)) = pure (closAcc env ns acc)
  | [], acc, _ => rfl
  | (n, k) :: r, acc, h => by
    rw [List.forIn_cons]
    unfold closAcc
    by_cases hk : (k == NameKind.free) = true
    · obtain ⟨c, hc⟩ := h (n, k) List.mem_cons_self (by simpa using hk)
      dsimp only at hc ⊢
      rw [if_pos hk, if_pos hk]
      unfold cellOf
      rw [hc]
      show _ = pure (closAcc env r ((n, c) :: acc))
      rw [← forIn_clos r ((n, c) :: acc) fun x hx => h x (List.mem_cons_of_mem _ hx)]
      rfl
    · dsimp only
      rw [if_neg hk, if_neg hk, ← forIn_clos r acc fun x hx => h x (List.mem_cons_of_mem _ hx)]
      rfl
theorem clos_ok {scope : Scope} {env : Env} (h : ∀ x ∈ scope.names, x.2 = .free → ∃ c, env.cells.lookup x.1 = some c) : closureFor scope env = pure (closOf scope env) := by
  have q := forIn_clos (env := env) scope.names [] h
  unfold closureFor
  exact congrArg (fun m => m >>= fun cs => pure cs) q |>.trans (by rfl)
end L2

set_option Elab.async false
set_option linter.all false
set_option maxRecDepth 100000
namespace L2
open PySem PySem.Spec PyProof.Rows

/-- the loop of a list comprehension's block, whatever its target -/
theorem compLoop_any {prog : Program} {w : World} {A : Around} {R : Result → Shared → Prop} {s : Shared} {elt target iter : Expr} {ifs : List Expr} {scope : Scope} {pos : Pos} {it acc : Value} {env : Env} (I : Nat → Shared → Prop)
    (turn : ∀ n s, I n s → wpAny (model prog w) A (pyNext it) (fun r s₁ => match r with
      | none => R (.ok .next) s₁
      | some v => wpAny (model prog w) A (letOwnedTupleGo target it v) (fun _ s₁' => wpAny (model prog w) A (assign target env v) (fun _ s₂ =>
          wpAny (model prog w) A (forIn ifs true fun c r => if r = true then do let ok ← isTrue c env (eval c env); pure (ForInStep.yield ok) else pure (ForInStep.yield r)) (fun ok s₃ =>
            if ok = true then wpAny (model prog w) A (eval elt env) (fun x s₄ =>
              wpAny (model prog w) A (call (.builtin "list.append") [acc, x]) (fun _ s₅ => ∃ m, m < n ∧ I m s₅) (fun _ _ => False) s₄) (fun _ _ => False) s₃
            else ∃ m, m < n ∧ I m s₃) (fun _ _ => False) s₂) (fun _ _ => False) s₁') (fun _ _ => False) s₁) (fun _ _ => False) s)
    (n : Nat) (h : I n s) : codeAny (model prog w) A (.compLoop (.ListComp elt [⟨target, iter, ifs, 0⟩] scope pos) 0 it acc env) R s := by
  refine codeAny_loop rfl I (fun n s hI => ?_) n h
  show wpAny _ A ((compTurn (.ListComp elt [⟨target, iter, ifs, 0⟩] scope pos) 0 it acc env).onRaise (fun x => do noteFrame x env; theTreesLotGoes x)) _ _ s
  refine wpAny_noted ?_
  rw [compTurn_list]
  refine wpAny_bind (wpAny_standAt (wpAny_bind (wpAny_mono (turn n s hI) (fun r s₁ h₁ => ?_) fun _ _ h' => h'.elim)))
  cases r with
  | none => exact wpAny_pure h₁
  | some v =>
    refine wpAny_bind (wpAny_mono h₁ (fun _ s₁' h₁' => ?_) fun _ _ h' => h'.elim)
    refine wpAny_bind (wpAny_mono h₁' (fun _ s₂ h₂ => wpAny_bind (wpAny_mono h₂ (fun ok s₃ h₃ => ?_) fun _ _ h' => h'.elim)) fun _ _ h' => h'.elim)
    cases ok with
    | false => exact wpAny_pure ⟨rfl, h₃⟩
    | true =>
      exact wpAny_bind (wpAny_bind (wpAny_mono h₃ (fun x s₄ h₄ => wpAny_bind (wpAny_mono h₄ (fun _ s₅ h₅ => wpAny_pure (wpAny_pure ⟨rfl, h₅⟩)) fun _ _ h' => h'.elim)) fun _ _ h' => h'.elim))

/-- the clauses' tests -/
def PF (X : Cx) (ifs : List Expr) (t : TT) : Prop :=
  ∀ (pins : List (Addr × Obj)) (s : Shared) (σ : St) (H : Hp) (Q : Bool → Hp → Prop), Inv X pins σ H s → t σ H Q →
    wpAny (model X.prog X.w) X.A (forIn ifs true fun c r => if r = true then do let ok ← isTrue c X.env (eval c X.env); pure (ForInStep.yield ok) else pure (ForInStep.yield r)) (TP X pins σ Q) X.xe s
def tAlways : TT := fun _ H Q => Q true H
theorem pf_nil {X : Cx} : PF X [] tAlways := fun pins s σ H Q I h => wpAny_pure ⟨H, I, h⟩

/-- the block's context -/
def compCx (X : Cx) (scope : Scope) (N' : List Str) (C : Addr) (s : Shared) (H : Hp) (fp : List Addr) (pins : List (Addr × Obj)) : Cx :=
  { prog := X.prog, w := X.w, K := X.K, mg := X.mg, base := X.base, A := X.A, N := N', s₀ := s, H₀ := H, env := compEnvC scope (closOf scope X.env) C X.env, outer := X.stack, stack := X.stack, ex := fp, fn := fun _ => false, calm := X.calm,
    pn := X.pn ++ pins, xe := fun _ _ => False }
/-- the block's names ahead of its first turn: js says where each stands in the def's -/
def compSt (js : List (Option Nat)) (σ : St) : St := js.map fun j => match j with
  | none => none
  | some j => match σ[j]? with
    | some v => v
    | none => none
def jsOk (N N' : List Str) (scope : Scope) (js : List (Option Nat)) : Bool :=
  (N'.zip js).all fun p => match p.2 with
    | none => true
    | some j => decide (N[j]? = some p.1) && decide (scope.names.lookup p.1 = some .free)
/-- what is seen of the block's names by looking at the text -/
structure CompOk (X : Cx) (scope : Scope) (N' : List Str) (js : List (Option Nat)) : Prop where
  kind : scope.kind = .function
  nocell : ∀ y ∈ scope.names, y.2 ≠ .cell
  loc : ∀ y ∈ scope.names, y.2 = .local → scope.names.lookup y.1 = some .local
  free : ∀ y ∈ scope.names, y.2 = .free → X.env.scope.names.lookup y.1 = some .cell
  len : js.length = N'.length
  jok : jsOk X.N N' scope js = true

theorem relabel_lookup {env : Env} {x : Str} {k : NameKind} : ∀ {names : List (Str × NameKind)},
    (names.map fun (n, k) => if (k == NameKind.free && env.scope.kind == .function && env.kindOf n == some .cell) then (n, NameKind.cell) else (n, k)).lookup x = some k →
    names.lookup x = some k ∨ (names.lookup x = some .free ∧ k = .cell)
  | [], h => by simp at h
  | (n, k') :: r, h => by
    have ih := @relabel_lookup env x k r
    have h' : List.lookup x ((if (k' == NameKind.free && env.scope.kind == .function && env.kindOf n == some .cell) = true then (n, NameKind.cell) else (n, k')) :: (r.map fun (n, k) => if (k == NameKind.free && env.scope.kind == .function && env.kindOf n == some .cell) then (n, NameKind.cell) else (n, k))) = some k := h
    cases hx : x == n with
    | true =>
      by_cases hc : (k' == NameKind.free && env.scope.kind == .function && env.kindOf n == some .cell) = true
      · rw [if_pos hc] at h'
        simp only [List.lookup_cons, hx] at h' ⊢
        have hk : k' = NameKind.free := by
          simp only [Bool.and_eq_true] at hc
          simpa using hc.1.1
        cases h'
        exact .inr ⟨by rw [hk], rfl⟩
      · rw [if_neg hc] at h'
        simp only [List.lookup_cons, hx] at h' ⊢
        exact .inl h'
    | false =>
      by_cases hc : (k' == NameKind.free && env.scope.kind == .function && env.kindOf n == some .cell) = true
      · rw [if_pos hc] at h'
        simp only [List.lookup_cons, hx] at h' ⊢
        exact ih h'
      · rw [if_neg hc] at h'
        simp only [List.lookup_cons, hx] at h' ⊢
        exact ih h'

section
variable {X : Cx} {scope : Scope} {N' : List Str} {js : List (Option Nat)} {pins : List (Addr × Obj)} {σ : St} {H : Hp} {s : Shared} {fp : List Addr}

theorem CompOk.cellHas (c : CompOk X scope N' js) (ok : X.Ok) {y : Str × NameKind} (hy : y ∈ scope.names) (hk : y.2 = .free) : ∃ a, X.env.cells.lookup y.1 = some a := ok.has y.1 (.inl (c.free y hy hk))
theorem CompOk.clos (c : CompOk X scope N' js) (ok : X.Ok) : closureFor scope X.env = pure (closOf scope X.env) := clos_ok fun _ hy hk => c.cellHas ok hy hk

theorem comp_cxOk (c : CompOk X scope N' js) (I : Inv X pins σ H s) (hf : ∀ b ∈ fp, FpOk X pins H b) (hlt : ∀ b ∈ fp, b < s.heap.objs.size) : (compCx X scope N' s.heap.objs.size s H fp pins).Ok where
  mod := I.ok.mod
  kind := c.kind
  glob := I.ok.glob
  blt := I.ok.blt
  above := Nat.le_refl _
  inj := fun x y a h1 h2 => I.ok.inj x y a (clos_sub (scope := scope) h1) (clos_sub (scope := scope) h2)
  has := fun x h => by
    have key : scope.names.lookup x = some .free := by
      rcases h with h | h
      · rcases relabel_lookup (env := X.env) h with q | q
        · exact absurd rfl (c.nocell _ (lookup_mem q))
        · exact q.1
      · rcases relabel_lookup (env := X.env) h with q | q
        · exact q
        · exact q.1
    obtain ⟨a, ha⟩ := c.cellHas I.ok (lookup_mem key) rfl
    exact ⟨a, clos_eq key ha⟩
  cab := fun x a h _ => absurd h Bool.false_ne_true
  hd := I.ok.hd
  frames := I.ok.frames
  stk := .inl rfl
  exf := fun b hb => ⟨fun z => Nat.lt_irrefl _ (show b < b from (show b = s.heap.objs.size from z) ▸ hlt b hb), fun x a h => (hf b hb).2.2.2.2.1 x a (clos_sub (scope := scope) h)⟩
  bs := I.bs
  bsz := Nat.le_trans I.ok.bsz I.sz
  noex := fun b o e hb => by
    obtain ⟨_, _, _, f3, _, _⟩ := hf b hb
    rcases f3 with z | z
    · exact I.ok.noex b o e z
    · exact absurd (Nat.lt_of_lt_of_le (Heap.lt_size (I.ok.bs b o e).1) z) (Nat.lt_irrefl _)
  exfs := fun b hb z => by
    obtain ⟨_, f1, f2, _⟩ := hf b hb
    rcases List.mem_cons.mp (I.stkSub b z) with q | q
    · exact f1 q
    · exact f2 q
  funs := I.stack
  frf := I.stkFree

/-- the names at the block's entry -/
theorem comp_start (c : CompOk X scope N' js) (I : Inv X pins σ H s) (hf : ∀ b ∈ fp, FpOk X pins H b) (hlt : ∀ b ∈ fp, b < s.heap.objs.size) {h' : Heap} {tk : Nat} {m : Str → Option Value}
    (hn : h'.Ns s.heap.objs.size m) (hk : ∀ b o, s.heap.get? b = some o → h'.get? b = some o) :
    Inv (compCx X scope N' s.heap.objs.size s H fp pins) [] (compSt js σ) H { s with heap := h', toks := tk } where
  ok := comp_cxOk c I hf hlt
  os := rfl
  bare := I.bare
  base := Un.kept hk
  loc := by
    refine ⟨m, hn, fun i x v e1 e2 e3 => ?_⟩
    have e1' : N'[i]? = some x := e1
    unfold compSt at e2
    rw [List.getElem?_map] at e2
    cases ej : js[i]? with
    | none => rw [ej] at e2; simp at e2
    | some j =>
      rw [ej] at e2
      cases j with
      | none => simp at e2
      | some j =>
        simp only [Option.map_some, Option.some.injEq] at e2
        have hz : (x, some j) ∈ N'.zip js := by
          have : (N'.zip js)[i]? = some (x, some j) := by rw [List.getElem?_zip_eq_some]; exact ⟨e1', ej⟩
          exact List.mem_of_getElem? this
        have q := List.all_eq_true.mp c.jok _ hz
        simp only [Bool.and_eq_true, decide_eq_true_eq] at q
        obtain ⟨q1, q2⟩ := q
        cases es : σ[j]? with
        | none => rw [es] at e2; simp at e2
        | some y =>
          rw [es] at e2
          simp only at e2
          subst e2
          have hcell : X.env.scope.names.lookup x = some .cell := c.free _ (lookup_mem q2) rfl
          obtain ⟨m0, _, hl⟩ := I.loc
          obtain ⟨u, r, l⟩ := hl j x v q1 es (.inr (.inl hcell))
          refine ⟨u, r, ?_⟩
          rcases l with ⟨z, _⟩ | ⟨_, a, ha, ⟨o, ho, hd⟩⟩
          · have z' : X.env.scope.names.lookup x = some .local := z
            rw [hcell] at z'; cases z'
          · refine .inr ⟨?_, a, clos_eq q2 ha, ⟨o, hk _ _ ho, hd⟩⟩
            rcases e3 with e3 | e3 | e3
            · rcases relabel_lookup (env := X.env) e3 with z | z
              · rw [q2] at z; cases z
              · cases z.2
            · exact .inl e3
            · exact .inr e3
  cell := fun x a h => by
    obtain ⟨v, o, ho, hd⟩ := I.cell x a (clos_sub (scope := scope) h)
    exact ⟨v, o, hk _ _ ho, hd⟩
  free := I.hok.fresh (Nat.le_refl _)
  freeC := fun x a h => I.freeC x a (clos_sub (scope := scope) h)
  pin := fun p hp => by
    have hp' : p ∈ X.pn ++ pins := by simpa [compCx] using hp
    obtain ⟨e, n, ne, nf, d⟩ := I.pin p hp'
    refine ⟨hk _ _ e, n, fun z => ?_, fun z => ?_, d⟩
    · have z' : p.1 = s.heap.objs.size := z
      exact absurd (Heap.lt_size e) (by rw [z']; exact Nat.lt_irrefl _)
    · rcases List.mem_cons.mp (I.stkSub _ z) with q | q
      · exact ne q
      · exact nf q
  hok := I.hok.kept hk
  len := by
    unfold compSt
    rw [List.length_map, c.len]
    rfl
end
end L2

set_option Elab.async false
set_option linter.all false
set_option maxRecDepth 100000
namespace L2
open PySem PySem.Spec PyProof.Rows
/-- the turns of a block: W the word by the turn, a measure, the items so far -/
def CompW (J : It) (g : TG) (tf : TT) (te : TE) (p : Addr) (W : Nat → Nat → List V → St → Hp → Prop) (Fin : Hp → Prop) : Prop := ∀ i m ys σ H, W i m ys σ H → H p = some (.lst ys) ∧
  ((J.stop i H ∧ Fin H) ∨ (J.go i H ∧ ∀ x H1, J.yld i H x H1 → g x σ H1 fun σ2 H2 => tf σ2 H2 fun b H3 =>
    if b = true then te σ2 H3 fun y H4 => H4 p = some (.lst ys) ∧ ys.length < sizeLine ∧ ∃ m', m' < m ∧ W (i + 1) m' (ys ++ [y]) σ2 (upd H4 p (.lst (ys ++ [y])))
    else ∃ m', m' < m ∧ W (i + 1) m' ys σ2 H3))
section
variable {X : Cx} {scope : Scope} {N' : List Str} {js : List (Option Nat)} {pins : List (Addr × Obj)} {σ : St} {H : Hp} {s : Shared} {fp : List Addr}

theorem comp_run {elt tg iter : Expr} {ifs : List Expr} {pos : Pos} {J : It} {it : Addr} {tn : Nat → Heap → Prop} {g : TG} {tf : TT} {te : TE} {RR : Value → Addr → Result → Shared → Prop} {E : Value → Shared → Prop} {Fin : Addr → Hp → Prop}
    (c : CompOk X scope N' js) (hc : X.calm = true) (I : Inv X pins σ H s) (T : Turn X.prog X.w X.K tg J fp it tn) (st : tn 0 s.heap) (hf : ∀ b ∈ fp, FpOk X pins H b)
    (hg : ∀ C s H fp pins, PG (compCx X scope N' C s H fp pins) tg g) (ht : ∀ C s H fp pins, PF (compCx X scope N' C s H fp pins) ifs tf) (he : ∀ C s H fp pins, PE (compCx X scope N' C s H fp pins) elt te)
    (hw : ∀ p, H p = none → ∃ W : Nat → Nat → List V → St → Hp → Prop, (∃ m, W 0 m [] (compSt js σ) (upd H p (.lst []))) ∧ CompW J g tf te p W (Fin p))
    (hRR : ∀ (p C : Addr) (s' : Shared) (H' : Hp), Inv X pins σ H' s' → FpOk X pins H' C → (∃ m, s'.heap.Ns C m) → Fin p H' → RR (.ref p) C (.ok .next) s') :
    wpAny (model X.prog X.w) X.A (newList []) (fun acc s₃ => wpAny (model X.prog X.w) X.A (newFunctionEnv scope X.env.globals (closOf scope X.env) [] X.env.qual none .none (some X.env)) (fun cenv s₄ =>
      codeAny (model X.prog X.w) X.A (.compStart (.ListComp elt [⟨tg, iter, ifs, 0⟩] scope pos) 0 (.ref it) acc { cenv with scope := relabel scope X.env }) (RR acc cenv.locals) s₄) E s₃) E s := by
  refine wpAny_newObj_type (wpAny_newFunctionEnv c.nocell (by intro y hy; simp at hy) (fun h₁ hns₁ hsb₁ => ?_) c.kind)
  have hlt : ∀ b ∈ fp, b < s.heap.objs.size := fun b hb => by
    obtain ⟨o, e, _⟩ := T.obj _ _ st b hb
    exact Heap.lt_size e
  have I3 : Inv X pins σ (upd H s.heap.objs.size (.lst [])) { s with heap := s.heap.push { cls := .type "list", data := .seq ([] : List Value).toArray } } := I.lnew (its := []) (t' := s.toks) .nil (Nat.zero_le _)
  generalize hs3 : ({ s with heap := s.heap.push { cls := .type "list", data := .seq ([] : List Value).toArray } } : Shared) = s3 at I3
  have hh3 : s3.heap = s.heap.push { cls := .type "list", data := .seq ([] : List Value).toArray } := by rw [← hs3]
  have hlt3 : ∀ b ∈ fp, b < s3.heap.objs.size := fun b hb => by rw [hh3, Heap.size_push]; exact Nat.lt_succ_of_lt (hlt b hb)
  have hf3 : ∀ b ∈ fp, FpOk X pins (upd H s.heap.objs.size (.lst [])) b := fun b hb => by
    obtain ⟨f0, f1⟩ := hf b hb
    exact ⟨by rw [upd_ne (Nat.ne_of_lt (hlt b hb))]; exact f0, f1⟩
  have hC : (s.heap.push { cls := .type "list", dict := none, data := .seq ([] : List Value).toArray }).objs.size = s3.heap.objs.size := by rw [hh3]
  replace hns₁ : h₁.Ns s3.heap.objs.size (fun x => List.lookup x ([] : List (Str × Value)).reverse) := by rw [← hC]; exact hns₁
  replace hsb₁ : Heap.SameBut s3.heap.objs.size (s3.heap.push { cls := .type (if (some X.env).isSome then "dict" else "frame"), data := .dict #[] }) h₁ := by rw [hh3]; exact hsb₁
  have hk : ∀ b o, s3.heap.get? b = some o → h₁.get? b = some o := fun b o e => by
    exact hsb₁.extBut b o (Nat.ne_of_lt (Heap.lt_size e)) (Heap.get?_push_of_some _ e)
  have IB := comp_start (tk := s3.toks + ([] : List (Str × Value)).length) c I3 hf3 hlt3 hns₁ hk
  have okB := IB.ok
  generalize hX' : compCx X scope N' s3.heap.objs.size s3 (upd H s.heap.objs.size (.lst [])) fp pins = X' at IB okB
  have gX : PG X' tg g := by rw [← hX']; exact hg _ _ _ _ _
  have tX : PF X' ifs tf := by rw [← hX']; exact ht _ _ _ _ _
  have eX : PE X' elt te := by rw [← hX']; exact he _ _ _ _ _
  have hP : X'.prog = X.prog := by rw [← hX']; rfl
  have hW : X'.w = X.w := by rw [← hX']; rfl
  have hKK : X'.K = X.K := by rw [← hX']; rfl
  have hA : X'.A = X.A := by rw [← hX']; rfl
  have hcm : X'.calm = true := by rw [← hX']; exact hc
  have hE : X'.env = compEnvC scope (closOf scope X.env) s3.heap.objs.size X.env := by rw [← hX']; rfl
  have hXe : X'.xe = fun _ _ => False := by rw [← hX']; rfl
  have stat : ∀ {H' : Hp}, (∀ b ∈ fp, H' b = none) → ∀ b ∈ fp, FpOk X' [] H' b := fun {H'} hn b hb => by
    obtain ⟨f0, f1, f2, f3, f4, f5⟩ := hf3 b hb
    refine ⟨hn b hb, ?_, ?_, .inl ?_, ?_, ?_⟩
    · rw [← hX']; exact Nat.ne_of_lt (hlt3 b hb)
    · intro z
      exact okB.exfs b (by rw [← hX']; exact hb) z
    · rw [← hX']; exact hb
    · intro x a h
      exact (okB.exf b (by rw [← hX']; exact hb)).2 x a h
    · intro q hq
      refine f5 q ?_
      rw [← hX'] at hq
      simpa [compCx] using hq
  have fin : ∀ {σ' : St} {H' : Hp} {s' : Shared}, Inv X' [] σ' H' s' → Fin s.heap.objs.size H' → RR (.ref s.heap.objs.size) s3.heap.objs.size (.ok .next) s' := fun {σ' H' s'} I' q => by
    have IX : Inv X pins σ H' s' := by
      refine I3.call' (ch := fp) (H' := H') ?_ ?_ ?_ I'.bare ?_
      · have := I'.os
        rw [← hX'] at this
        exact this
      · have := I'.base
        rw [← hX'] at this
        exact this
      · have := I'.hok
        rw [← hX'] at this
        exact this
      · intro b hb
        obtain ⟨f0, f1, f2, f3, f4, f5⟩ := hf3 b hb
        exact ⟨f3, f1, f4, f5⟩
    have fr : H' s3.heap.objs.size = none := by
      have := I'.free
      rw [hE] at this
      exact this
    refine hRR _ _ _ H' IX (I3.fpOk (Nat.le_refl _) fr) ?_ q
    obtain ⟨m, hm, _⟩ := I'.loc
    rw [hE] at hm
    exact ⟨m, hm⟩
  obtain ⟨W, ⟨m0, w0⟩, turn⟩ := hw s.heap.objs.size (I.hok.fresh (Nat.le_refl _))
  have st1 : tn 0 h₁ := T.keep _ _ _ st fun b hb o e => hk b o (by rw [hh3]; exact Heap.get?_push_of_some _ e)
  have loop : ∀ s4 : Shared, s4 = { s3 with heap := h₁, toks := s3.toks + ([] : List (Str × Value)).length } →
      codeAny (model X.prog X.w) X.A (.compLoop (.ListComp elt [⟨tg, iter, ifs, 0⟩] scope pos) 0 (.ref it) (.ref s.heap.objs.size) X'.env) (RR (.ref s.heap.objs.size) s3.heap.objs.size) s4 := by
    rintro s4 rfl
    refine compLoop_any (fun n s' => ∃ i ys σ' H', Inv X' [] σ' H' s' ∧ tn i s'.heap ∧ (∀ b ∈ fp, H' b = none) ∧ W i n ys σ' H') ?_ m0 ⟨0, [], _, _, IB, st1, fun b hb => (hf3 b hb).1, w0⟩
    rintro n s5 ⟨i, ys, σ5, H5, I5, st5, fr5, w5⟩
    obtain ⟨hacc, h⟩ := turn i n ys σ5 H5 w5
    rcases h with ⟨stop, qn⟩ | ⟨go, step⟩
    · have td := T.done X' hP hW hKK hcm i [] s5 σ5 H5 (fun _ _ => False) I5 (stat fr5) st5 stop
      rw [hA] at td
      refine thn td fun r s6 ⟨hr, I6⟩ => ?_
      subst hr
      exact fin I6 qn
    · have td := T.item X' hP hW hKK hcm i [] s5 σ5 H5 (fun _ _ => False) I5 (stat fr5) st5 go
      rw [hA] at td
      refine thn td fun r s6 ⟨u, hr, h6⟩ => ?_
      subst hr
      refine thn h6 fun _ s7 ⟨x, H7, I7, r7, y7, st7, fr7⟩ => ?_
      have I7' := I7.pinned (stat fr7) (T.obj _ _ st7)
      have g7 := gX _ s7 σ5 H7 x u _ I7' r7 (step x H7 y7)
      have t7 := tX
      have e7 := eX
      unfold PF at t7
      unfold PE at e7
      rw [hXe, hP, hW, hA] at g7 t7 e7
      refine thn g7 fun _ s8 ⟨σ8, H8, I8, q8⟩ => ?_
      refine thn (t7 _ s8 σ8 H8 _ I8 q8) fun b s9 ⟨H9, I9, q9⟩ => ?_
      have back : ∀ {σ' : St} {H' : Hp} {s' : Shared} {ys' : List V}, Inv X' ([] ++ pinsAt fp s7.heap) σ' H' s' → (∃ m', m' < n ∧ W (i + 1) m' ys' σ' H') → ∃ m, m < n ∧ ∃ i ys σ' H', Inv X' [] σ' H' s' ∧ tn i s'.heap ∧ (∀ b ∈ fp, H' b = none) ∧ W i m ys σ' H' := fun {σ' H' s' ys'} I' ⟨m', hm, w'⟩ => by
        refine ⟨m', hm, i + 1, ys', σ', H', I'.unpinned, T.keep _ _ _ st7 fun b hb o e => (I'.pin (b, o) (List.mem_append_right _ (List.mem_append_right _ (mem_pinsAt hb e)))).1, fun b hb => ?_, w'⟩
        obtain ⟨o, e, d⟩ := T.obj _ _ st7 b hb
        exact (I'.pin (b, o) (List.mem_append_right _ (List.mem_append_right _ (mem_pinsAt hb e)))).2.1
      cases b with
      | false =>
        rw [if_neg Bool.false_ne_true] at q9
        rw [if_neg Bool.false_ne_true]
        exact back I9 q9
      | true =>
        rw [if_pos rfl] at q9
        rw [if_pos rfl]
        refine thn (e7 _ s9 σ8 H9 _ I9 q9) fun v s10 ⟨y, H10, I10, r10, a10, z10, q10⟩ => ?_
        have m10 := mt_append (X := X') (([] : List (Addr × Obj)) ++ pinsAt fp s7.heap) s10 σ8 H10 (.ref s.heap.objs.size) [y] (.ref s.heap.objs.size) [v] (fun _ H' => H' = upd H10 s.heap.objs.size (.lst (ys ++ [y]))) I10 rfl (.cons r10 .nil) ⟨_, ys, y, rfl, rfl, a10, z10, rfl⟩
        rw [hXe, hP, hW, hA] at m10
        refine thn m10 fun _ s11 ⟨_, H11, I11, _, e11⟩ => ?_
        subst e11
        exact back I11 q10
  show codeAny _ _ (.compStart _ 0 (.ref it) _ (compEnvC scope (closOf scope X.env) s3.heap.objs.size X.env)) (RR (.ref s.heap.objs.size) s3.heap.objs.size) _
  rw [← hE]
  exact codeAny_compStart_list (loop _ rfl) (T.self X.A 0 _ _ _ st1 (loop _ rfl))

def tComp (js : List (Option Nat)) (wi : TI) (g : TG) (tf : TT) (te : TE) : TE := fun σ H Q => wi σ H fun J H1 => ∀ p, H1 p = none →
  ∃ W : Nat → Nat → List V → St → Hp → Prop, (∃ m, W 0 m [] (compSt js σ) (upd H1 p (.lst []))) ∧ CompW J g tf te p W (fun H' => Q (.ref p) H')
/-- a list comprehension as a value -/
theorem pe_comp {elt tg iter : Expr} {ifs : List Expr} {pos : Pos} {wi : TI} {g : TG} {tf : TT} {te : TE} (c : CompOk X scope N' js) (hc : X.calm = true) (hi : PI X tg iter wi)
    (hg : ∀ C s H fp pins, PG (compCx X scope N' C s H fp pins) tg g) (ht : ∀ C s H fp pins, PF (compCx X scope N' C s H fp pins) ifs tf) (he : ∀ C s H fp pins, PE (compCx X scope N' C s H fp pins) elt te)
    (hs : ∀ x, foldedSetIterable iter X.env x = pure x := by intro _; rfl) : PE X (.ListComp elt [⟨tg, iter, ifs, 0⟩] scope pos) (tComp js wi g tf te) := by
  intro pins s σ H Q I h
  rw [eval_ListComp]
  refine wpAny_comprehension_free (use := none) rfl hs (c.clos I.ok) c.kind c.loc (thn (hi pins s σ H _ I h) fun v s1 h1 => thn h1 fun itv s2 h2 => ?_)
  obtain ⟨it, fp, tn, J, H2, e, I2, T, st2, f2, hw⟩ := h2
  subst e
  refine comp_run (RR := fun acc C => compPost (model X.prog X.w) X.A X.xe none (EP X pins σ Q) acc C) (Fin := fun p H' => Q (.ref p) H') c hc I2 T st2 f2 hg ht he hw ?_
  intro p C s' H' I' fC ⟨m, hm⟩ q
  refine ⟨m, hm, fun h' hs' => ?_⟩
  obtain ⟨f0, f1, f2, f3, f4, f5⟩ := fC
  exact ⟨.ref p, H', I'.turned (t' := s'.toks) (fun b o hb e => hs'.extBut b o hb e) f0 f1 f3 f4 f5, rfl, q⟩
/-- name = a list comprehension (the name a plain local one, on the same row) -/
theorem ps_comp {i : Nat} {y : Str} {elt tg iter : Expr} {ifs : List Expr} {py pos spos : Pos} {wi : TI} {g : TG} {tf : TT} {te : TE} (hN : X.N.Nodup) (hy : X.N[i]? = some y) (hl : X.env.scope.names.lookup y = some .local)
    (hsw : swapsWith (.ListComp elt [⟨tg, iter, ifs, 0⟩] scope pos) (some (.Name y py)) spos.line X.env = pure true)
    (c : CompOk X scope N' js) (hc : X.calm = true) (hi : PI X tg iter wi)
    (hg : ∀ C s H fp pins, PG (compCx X scope N' C s H fp pins) tg g) (ht : ∀ C s H fp pins, PF (compCx X scope N' C s H fp pins) ifs tf) (he : ∀ C s H fp pins, PE (compCx X scope N' C s H fp pins) elt te)
    (hs : ∀ x, foldedSetIterable iter X.env x = pure x := by intro _; rfl) : PS X (.Assign [.Name y py] (.ListComp elt [⟨tg, iter, ifs, 0⟩] scope pos) spos) (tAsg (tComp js wi g tf te) (gName i)) := by
  intro pins s σ H D I h
  rw [exec_Assign_Name_used _ _ _ _ hsw]
  refine wpAny_bind (wpAny_standAt (wpAny_bind ?_))
  show wpAny _ X.A (do let _ ← comprehension (.ListComp elt [⟨tg, iter, ifs, 0⟩] scope pos) scope X.env _ (newList []) false (eval iter X.env) (some (assign (.Name y py) X.env))) _ _ s
  refine wpAny_bind (thn (wpAny_comprehension_free (use := some (assign (.Name y py) X.env)) (Q := fun _ s' => SP X pins D .next s') rfl hs (c.clos I.ok) c.kind c.loc
    (thn (hi pins s σ H _ I h) fun v s1 h1 => thn h1 fun itv s2 h2 => ?_)) fun _ s' hq => wpAny_pure (wpAny_pure hq))
  obtain ⟨it, fp, tn, J, H2, e, I2, T, st2, f2, hw⟩ := h2
  subst e
  refine comp_run (RR := fun acc C => compPost (model X.prog X.w) X.A X.xe (some (assign (.Name y py) X.env)) (fun _ s' => SP X pins D .next s') acc C) (Fin := fun p H' => D.nx (σ.set i (some (.ref p))) H') c hc I2 T st2 f2 hg ht he hw ?_
  intro p C s' H' I' fC ⟨m, hm⟩ q
  show wpAny _ X.A (assign (.Name y py) X.env (.ref p)) _ _ s'
  refine wpAny_assign_Name (store_ok2 I' hN hy (.inl hl) (v := .ref p) rfl (fun s'' I'' ⟨a, sb, ha⟩ => ?_) (.inr hl))
  obtain ⟨f0, f1, f2, f3, f4, f5⟩ := fC
  have neC : C ≠ a := by
    rcases ha with z | z
    · rw [z]; exact f1
    · exact fun q => f4 _ _ z q.symm
  refine ⟨m, hm.sameBut sb neC, fun h' hs' => ?_⟩
  exact ⟨_, H', I''.turned (t' := s''.toks) (fun b o hb e => hs'.extBut b o hb e) f0 f1 f3 f4 f5, q⟩
end
end L2

set_option Elab.async false
set_option linter.all false
set_option maxRecDepth 100000
namespace L2
open PySem PySem.Spec PyProof.Rows
section
variable {X : Cx} {pins : List (Addr × Obj)} {σ : St} {H : Hp} {s : Shared} {h' : Heap}
/-- some untracked records have turned, and a new object is laid -/
theorem Inv.turnedLaid {ch : List Addr} {a : Addr} {o : HO} {t' : Nat} (I : Inv X pins σ H s) (hch : ∀ b ∈ ch, FpOk X pins H b) (k : ∀ b u, b ∉ ch → s.heap.get? b = some u → h'.get? b = some u) (hp : s.heap.objs.size ≤ a)
    (new : ObjOk X.prog X.w (upd H a o) h' a o) : Inv X pins σ (upd H a o) { s with heap := h', toks := t' } := by
  have hn := I.hok.fresh hp
  have nt : ∀ b u, H b = some u → b ∉ ch := fun b u e z => by rw [(hch b z).1] at e; cases e
  refine I.step (g' := s.gens) (d' := s.drawn) (ch := ch) (fun b hb => ?_) (fun b u _ _ hc e _ => k b u hc e) (fun b u _ _ hc e _ => ⟨u.slots, k b u hc e⟩)
    (fun b u _ e n => by rw [upd_ne (Nat.ne_of_lt (Nat.lt_of_lt_of_le (Heap.lt_size e) hp))]; exact n) (fun b u hc e => ⟨u, k b u hc e⟩)
    (fun b xs q => by rw [upd_ne (ne_of_none q hn)]; exact q) (fun b u xs q => by rw [upd_ne (ne_of_none q hn)]; exact q) (fun b ps q => ⟨#[], by rw [upd_ne (ne_of_none q hn), q]; simp⟩) (fun m hm => ?_) (fun b u e => ?_) I.bare
  · obtain ⟨_, f1, _, f3, f4, f5⟩ := hch b hb
    exact ⟨f3, f1, f4, f5⟩
  · obtain ⟨ob, es, ep, ho, r⟩ := hm
    exact ⟨ob, es, ep, k _ ob (fun z => (hch _ z).2.1 rfl) ho, r⟩
  · by_cases hb : b = a
    · subst hb; rw [upd_same] at e; cases e; exact new
    · rw [upd_ne hb] at e
      refine (I.hok b u e).stay (fun c v hc q => k c v ?_ q) (fun c q => by rw [upd_ne (ne_of_none q hn)]; exact q) fun c xs q => by rw [upd_ne (ne_of_none q hn)]; exact q
      rcases hc with z | z
      · rw [z]; exact nt b u e
      · exact nt c _ z
end

/-- a list from behind -/
def Itv (K : PySem.W.Frag) (a : Addr) (xs : List V) : It :=
  ⟨fun i H => i < xs.length ∧ SqL K H a xs, fun i H x H' => H' = H ∧ xs[xs.length - 1 - i]? = some x, fun i H => i = xs.length⟩

/-- the signs of a text -/
def Its (z : Str) : It := ⟨fun i _ => i < z.cps.size, fun i H x H' => H' = H ∧ ∃ c, z.cps[i]? = some c ∧ x = .str ⟨#[c]⟩, fun i _ => i = z.cps.size⟩
theorem strIter_cases (z : Str) : (strIterType z = "str_ascii_iterator") ∨ (strIterType z = "str_iterator") := by
  unfold strIterType
  split
  · exact .inl rfl
  · exact .inr rfl
theorem turn_str {P : Program} {w : World} {K : PySem.W.Frag} {tg : Expr} (it : Addr) (z : Str) (t : Tok) : Turn P w K tg (Its z) [it] it (fun i h => h.IsStrIter it (strIterType z) z t i) where
  mem := by simp
  obj := fun i h st b hb => by
    have e : b = it := by simpa using hb
    subst e
    obtain ⟨o, e, c, d⟩ := st
    exact ⟨o, e, fun v z => by rw [d] at z; cases z⟩
  keep := fun i h h' st k => let ⟨o, ho, r⟩ := st; ⟨o, k it (by simp) o ho, r⟩
  item := by
    intro X hP hw hK hc i pins s σ H E I hf st hg
    subst hP hw hK
    obtain ⟨f0, f1, f2, f3, f4, f5⟩ := hf it (by simp)
    have hx : z.cps[i]? = some (z.cps[i]'hg) := Array.getElem?_eq_getElem hg
    have fin : ∀ h' : Heap, h'.IsStrIter it (strIterType z) z t (i + 1) → Heap.SameBut it s.heap h' → (fun r s1 => ∃ u, r = some u ∧
      wpAny (model X.prog X.w) X.A (letOwnedTupleGo tg (.ref it) u) (fun _ s2 => ∃ x H', Inv X pins σ H' s2 ∧ RelV x u ∧ (Its z).yld i H x H' ∧ (fun (i : Nat) (h : Heap) => h.IsStrIter it (strIterType z) z t i) (i + 1) s2.heap ∧ ∀ b ∈ [it], H' b = none) E s1) (some (Value.str ⟨#[z.cps[i]'hg]⟩ s.toks)) { s with heap := h', toks := s.toks + 1 } := fun h' st' sb => by
      have I1 : Inv X pins σ H { s with heap := h', toks := s.toks + 1 } := I.turned (t' := s.toks + 1) (fun b o hb e => (sb.2 b hb).trans e) f0 f1 f3 f4 f5
      obtain ⟨o, e, c, d⟩ := id st'
      have hn : ["enumerate", "zip", "dict_itemiterator", "dict_reverseitemiterator", "odict_iterator", "itertools.zip_longest", "itertools.pairwise"].contains (strIterType z) = false := by
        rcases strIter_cases z with q | q <;> rw [q] <;> decide
      exact ⟨_, rfl, go_of (s := { s with heap := h', toks := s.toks + 1 }) e c d hn ⟨.str ⟨#[z.cps[i]'hg]⟩, H, I1, ⟨_, rfl⟩, ⟨rfl, _, hx, rfl⟩, st', fun b hb => (hf b hb).1⟩⟩
    rcases strIter_cases z with q | q
    · rw [q] at st
      exact wpAny_pyNext_ascii_item st hx fun h' st' sb => fin h' (by rw [q]; exact st') sb
    · rw [q] at st
      exact wpAny_pyNext_wide_item st hx fun h' st' sb => fin h' (by rw [q]; exact st') sb
  done := by
    intro X hP hw hK hc i pins s σ H E I hf st hg
    subst hP hw hK
    have hi : i = z.cps.size := hg
    obtain ⟨f0, f1, f2, f3, f4, f5⟩ := hf it (by simp)
    have hx : z.cps[i]? = none := by rw [hi]; simp
    rcases strIter_cases z with q | q
    · rw [q] at st
      exact wpAny_pyNext_ascii_end (I.ok.hd hc) st hx fun h' eb => ⟨rfl, I.turned (t' := s.toks) (fun b o hb e => eb b o hb e) f0 f1 f3 f4 f5⟩
    · rw [q] at st
      exact wpAny_pyNext_wide_end (I.ok.hd hc) st hx fun h' eb => ⟨rfl, I.turned (t' := s.toks) (fun b o hb e => eb b o hb e) f0 f1 f3 f4 f5⟩
  self := fun _ _ _ _ _ st h => by
    rcases strIter_cases z with q | q
    · rw [q] at st; exact wpAny_pyIter_striter_ascii st h
    · rw [q] at st; exact wpAny_pyIter_striter_wide st h

/-- the pairs of a place and an item; J the items -/
def Ite (K : PySem.W.Frag) (a : Addr) : It :=
  ⟨fun i H => ∃ xs x, SqL K H a xs ∧ xs[i]? = some x, fun i H v H' => ∃ p x, v = .ref p ∧ H p = none ∧ H' = upd H p (.tup [.int i, x]) ∧ ∀ xs, SqL K H a xs → xs[i]? = some x, fun i H => ∃ xs, SqL K H a xs ∧ xs.length ≤ i⟩
theorem turn_enum {P : Program} {w : World} {K : PySem.W.Frag} {els : List Expr} {k : Nat} {tp : Pos} (a e it : Addr) (hne : e ≠ it) : Turn P w K (.Tuple els k tp) (Ite K a) [e, it] e (fun i h => (∃ old, IsEnum h e it (i : Int) old) ∧ h.IsListIter it a i) where
  mem := by simp
  obj := fun i h st b hb => by
    obtain ⟨⟨old, he⟩, ⟨o, e1, c, d⟩⟩ := st
    rcases List.mem_cons.mp hb with z | z
    · subst z
      exact ⟨_, he, fun v z => by
        have z' : Data.fields _ = Data.cell v := z
        cases z'⟩
    · have z' : b = it := by simpa using z
      subst z'
      exact ⟨o, e1, fun v z => by rw [d] at z; cases z⟩
  keep := fun i h h' st k => by
    obtain ⟨⟨old, he⟩, st⟩ := st
    exact ⟨⟨old, k e (by simp) _ he⟩, st.at fun o q => k it (by simp) o q⟩
  item := by
    intro X hP hw hK hc i pins s σ H E I hf st hg
    subst hP hw hK
    obtain ⟨⟨old, he⟩, st⟩ := st
    obtain ⟨xs, x, hq, hx⟩ := hg
    obtain ⟨its, rv, p, hz⟩ := I.list hq
    obtain ⟨u, hu, ru⟩ := rv.get hx
    refine wpAny_pyNext_enum_item he st p.isList (x := u) (by simpa using hu) hne fun h' he' st' ht' hz' hk' => ?_
    have hfr : H s.heap.objs.size = none := I.hok.fresh (Nat.le_refl _)
    have hel := Heap.lt_size he
    refine ⟨_, rfl, wpAny_letOwnedTupleGo_enum he' fun h'' he'' hs'' => ?_⟩
    have ht'' : h''.get? s.heap.objs.size = some { cls := .type "tuple", data := .seq #[.int i s.toks, u] } := (hs''.2 _ (Nat.ne_of_gt hel)).trans ht'
    have I1 : Inv X pins σ (upd H s.heap.objs.size (.tup [.int i, x])) { s with heap := h'', toks := s.toks + 1 } := by
      refine I.turnedLaid (ch := [e, it]) hf (fun b o hb q => (hs''.2 b fun z => hb (by simp [z])).trans (hk' b o (fun z => hb (by simp [z])) (fun z => hb (by simp [z])) q)) (Nat.le_refl _) ?_
      exact ⟨by show 2 ≤ sizeLine; decide, [.int i s.toks, u], .cons ⟨_, rfl⟩ (.cons ru .nil), ⟨_, ht'', rfl, _, rfl⟩⟩
    refine ⟨.ref s.heap.objs.size, _, I1, rfl, ⟨_, x, rfl, hfr, rfl, fun ys hy => by rw [I.list_inj hy hq]; exact hx⟩, ⟨⟨u, by simpa using he''⟩, ?_⟩, fun b hb => ?_⟩
    · exact st'.at fun o q => (hs''.2 it (Ne.symm hne)).trans q
    · have hb' : b < s.heap.objs.size := by
        rcases List.mem_cons.mp hb with z | z
        · rw [z]; exact hel
        · have z' : b = it := by simpa using z
          obtain ⟨o, q, _⟩ := st
          rw [z']; exact Heap.lt_size q
      rw [upd_ne (Nat.ne_of_lt hb')]
      exact (hf b hb).1
  done := by
    intro X hP hw hK hc i pins s σ H E I hf st hg
    subst hP hw hK
    obtain ⟨⟨old, he⟩, st⟩ := st
    obtain ⟨xs, hq, hx⟩ := hg
    obtain ⟨its, rv, p, hz⟩ := I.list hq
    obtain ⟨f0, f1, f2, f3, f4, f5⟩ := hf it (by simp)
    have hl := rv.length
    exact wpAny_pyNext_enum_end (I.ok.hd hc) he st p.isList (by simp; omega) fun h' eb => ⟨rfl, I.turned (t' := s.toks) (fun b o hb e => eb b o hb e) f0 f1 f3 f4 f5⟩
  self := fun _ _ _ _ _ st h => by
    obtain ⟨⟨old, he⟩, _⟩ := st
    exact wpAny_pyIter_enum he h

/-- the pairs of a place and a sign -/
def Ites (z : Str) : It := ⟨fun i _ => i < z.cps.size, fun i H v H' => ∃ p c, v = .ref p ∧ H p = none ∧ H' = upd H p (.tup [.int i, .str ⟨#[c]⟩]) ∧ z.cps[i]? = some c, fun i _ => i = z.cps.size⟩
theorem draws_str {P : Program} {w : World} {A : Around} (hh : A.handled = none) (it : Addr) (z : Str) (t : Tok) :
    Draws P w A it [it] z.cps.size (fun i v => ∃ c u, z.cps[i]? = some c ∧ v = .str ⟨#[c]⟩ u) (fun i h => h.IsStrIter it (strIterType z) z t i) := by
  rcases strIter_cases z with q | q
  · rw [q]; exact Draws.strAscii hh it z t
  · rw [q]; exact Draws.strWide hh it z t
theorem turn_enumS {P : Program} {w : World} {K : PySem.W.Frag} {els : List Expr} {k : Nat} {tp : Pos} (z : Str) (t : Tok) (e it : Addr) (hne : e ≠ it) : Turn P w K (.Tuple els k tp) (Ites z) [e, it] e (fun i h => (∃ old, IsEnum h e it (i : Int) old) ∧ h.IsStrIter it (strIterType z) z t i) where
  mem := by simp
  obj := fun i h st b hb => by
    obtain ⟨⟨old, he⟩, ⟨o, e1, c, d⟩⟩ := st
    rcases List.mem_cons.mp hb with z | z
    · subst z
      exact ⟨_, he, fun v z => by
        have z' : Data.fields _ = Data.cell v := z
        cases z'⟩
    · have z' : b = it := by simpa using z
      subst z'
      exact ⟨o, e1, fun v z => by rw [d] at z; cases z⟩
  keep := fun i h h' st k => by
    obtain ⟨⟨old, he⟩, ⟨o, ho, r⟩⟩ := st
    exact ⟨⟨old, k e (by simp) _ he⟩, ⟨o, k it (by simp) o ho, r⟩⟩
  item := by
    intro X hP hw hK hc i pins s σ H E I hf st hg
    subst hP hw hK
    obtain ⟨⟨old, he⟩, st⟩ := st
    have D := draws_str (P := X.prog) (w := X.w) (A := X.A.in1) (I.ok.hd hc) it z t
    refine wpAny_pyNext_enum_itemD D he st hg hne (by simpa using hne) fun u h' tk hu he' st' ht' hz' hk' => ?_
    obtain ⟨c, tu, hcu, rfl⟩ := hu
    have hfr : H s.heap.objs.size = none := I.hok.fresh (Nat.le_refl _)
    have hel := Heap.lt_size he
    refine ⟨_, rfl, wpAny_letOwnedTupleGo_enum he' fun h'' he'' hs'' => ?_⟩
    have ht'' : h''.get? s.heap.objs.size = some { cls := .type "tuple", data := .seq #[.int i tk, .str ⟨#[c]⟩ tu] } := (hs''.2 _ (Nat.ne_of_gt hel)).trans ht'
    have I1 : Inv X pins σ (upd H s.heap.objs.size (.tup [.int i, .str ⟨#[c]⟩])) { s with heap := h'', toks := tk + 1 } := by
      refine I.turnedLaid (ch := [e, it]) hf (fun b o hb q => (hs''.2 b fun z => hb (by simp [z])).trans (hk' b o (fun z => hb (by simp [z])) (fun z => hb (by simp [z])) q)) (Nat.le_refl _) ?_
      exact ⟨by show 2 ≤ sizeLine; decide, [.int i tk, .str ⟨#[c]⟩ tu], .cons ⟨_, rfl⟩ (.cons ⟨_, rfl⟩ .nil), ⟨_, ht'', rfl, _, rfl⟩⟩
    refine ⟨.ref s.heap.objs.size, _, I1, rfl, ⟨_, c, rfl, hfr, rfl, hcu⟩, ⟨⟨_, by simpa using he''⟩, ?_⟩, fun b hb => ?_⟩
    · obtain ⟨o, ho, r⟩ := st'
      exact ⟨o, (hs''.2 it (Ne.symm hne)).trans ho, r⟩
    · have hb' : b < s.heap.objs.size := by
        rcases List.mem_cons.mp hb with z | z
        · rw [z]; exact hel
        · have z' : b = it := by simpa using z
          obtain ⟨o, q, _⟩ := st
          rw [z']; exact Heap.lt_size q
      rw [upd_ne (Nat.ne_of_lt hb')]
      exact (hf b hb).1
  done := by
    intro X hP hw hK hc i pins s σ H E I hf st hg
    subst hP hw hK
    obtain ⟨⟨old, he⟩, st⟩ := st
    have hi : i = z.cps.size := hg
    rw [hi] at st
    obtain ⟨f0, f1, f2, f3, f4, f5⟩ := hf it (by simp)
    have D := draws_str (P := X.prog) (w := X.w) (A := X.A.in1) (I.ok.hd hc) it z t
    exact wpAny_pyNext_enum_endD D he st fun h' eb => ⟨rfl, I.turned (t' := s.toks) (fun b o hb e => eb b o hb e) f0 f1 f3 f4 f5⟩
  self := fun _ _ _ _ _ st h => by
    obtain ⟨⟨old, he⟩, _⟩ := st
    exact wpAny_pyIter_enum he h

section
variable {X : Cx} {tg : Expr}
def iStr (tl : TE) : TI := fun σ H R => tl σ H fun x H1 => ∃ z, x = .str z ∧ R (Its z) H1
theorem pi_str {l : Expr} {tl : TE} (hl : PE X l tl) : PI X tg l (iStr tl) := by
  intro pins s σ H R I h
  refine thn (hl pins s σ H _ I h) fun v s1 ⟨x, H1, I1, r1, q1⟩ => ?_
  obtain ⟨z, e, q⟩ := q1
  subst e
  obtain ⟨t, rfl⟩ := r1
  refine wpAny_pyIter_strU ?_
  refine ⟨s1.heap.objs.size, [s1.heap.objs.size], _, _, H1, rfl, I1.kept (t' := s1.toks) fun b o e => Heap.get?_push_of_some _ e, turn_str _ z t, ⟨_, Heap.get?_push_size _ rfl, rfl, rfl⟩, fun b hb => ?_, q⟩
  have e : b = s1.heap.objs.size := by simpa using hb
  subst e
  exact I1.fpOk (Nat.le_refl _) (I1.hok.fresh (Nat.le_refl _))
def iRev (K : PySem.W.Frag) (ta : TA) : TI := fun σ H R => ta σ H fun vs H1 => ∃ a xs, vs = [.ref a] ∧ SqL K H1 a xs ∧ R (Itv K a xs) H1
def iEnum (K : PySem.W.Frag) (ta : TA) : TI := fun σ H R => ta σ H fun vs H1 => ∃ a, vs = [.ref a] ∧ (∃ xs, SqL K H1 a xs) ∧ R (Ite K a) H1
theorem pi_enum {els : List Expr} {k : Nat} {tp : Pos} {a : Expr} {ta : TA} {p pos : Pos} (hg : Gl X "enumerate") (hm : X.mg "enumerate" = none) (ha : PA X [a] ta) (hs : starEach [a] X.env = [(false, eval a X.env)] := by rfl) : PI X (.Tuple els k tp) (.Call (.Name "enumerate" p) [a] [] pos) (iEnum X.K ta) := by
  intro pins s σ H R I h
  refine Call_ (ld_blt I hg hm boot_enumerate (PyProof.Rows.callWith_type1 (thn (ha pos pins s σ H _ I h) fun us s1 ⟨vs, H1, I1, r1, q1⟩ => ?_) hs rfl))
  obtain ⟨a, e, ⟨xs, hq⟩, q⟩ := q1
  subst e
  cases r1 with
  | cons r rr =>
    cases rr
    obtain rfl : _ = Value.ref a := r
    obtain ⟨its, rv, pl, hz⟩ := I1.list hq
    refine call_enumerate_list pl.isList fun h' he hi hsz hk => wpAny_pyIter_enum he ?_
    refine ⟨s1.heap.objs.size + 1, [s1.heap.objs.size + 1, s1.heap.objs.size], _, _, H1, rfl, I1.kept (t' := s1.toks) hk, turn_enum a _ s1.heap.objs.size (Nat.succ_ne_self _), ⟨⟨_, he⟩, hi⟩, fun b hb => ?_, q⟩
    rcases List.mem_cons.mp hb with z | z
    · subst z
      exact I1.fpOk (Nat.le_succ _) (I1.hok.fresh (Nat.le_succ _))
    · have e : b = s1.heap.objs.size := by simpa using z
      subst e
      exact I1.fpOk (Nat.le_refl _) (I1.hok.fresh (Nat.le_refl _))
def iEnumS (ta : TA) : TI := fun σ H R => ta σ H fun vs H1 => ∃ z, vs = [.str z] ∧ R (Ites z) H1
theorem pi_enumS {els : List Expr} {k : Nat} {tp : Pos} {a : Expr} {ta : TA} {p pos : Pos} (hg : Gl X "enumerate") (hm : X.mg "enumerate" = none) (ha : PA X [a] ta) (hs : starEach [a] X.env = [(false, eval a X.env)] := by rfl) : PI X (.Tuple els k tp) (.Call (.Name "enumerate" p) [a] [] pos) (iEnumS ta) := by
  intro pins s σ H R I h
  refine Call_ (ld_blt I hg hm boot_enumerate (PyProof.Rows.callWith_type1 (thn (ha pos pins s σ H _ I h) fun us s1 ⟨vs, H1, I1, r1, q1⟩ => ?_) hs rfl))
  obtain ⟨z, e, q⟩ := q1
  subst e
  cases r1 with
  | cons r rr =>
    cases rr
    obtain ⟨t, rfl⟩ := r
    refine call_enumerate_str fun h' he hi hsz hk => wpAny_pyIter_enum he ?_
    refine ⟨s1.heap.objs.size + 1, [s1.heap.objs.size + 1, s1.heap.objs.size], _, _, H1, rfl, I1.kept (t' := s1.toks) hk, turn_enumS z t _ s1.heap.objs.size (Nat.succ_ne_self _), ⟨⟨_, he⟩, hi⟩, fun b hb => ?_, q⟩
    rcases List.mem_cons.mp hb with z | z
    · subst z
      exact I1.fpOk (Nat.le_succ _) (I1.hok.fresh (Nat.le_succ _))
    · have e : b = s1.heap.objs.size := by simpa using z
      subst e
      exact I1.fpOk (Nat.le_refl _) (I1.hok.fresh (Nat.le_refl _))
end
end L2

set_option Elab.async false
set_option linter.all false
set_option maxRecDepth 100000
namespace L2
open PySem PySem.Spec PyProof.Rows

/-! ## == of lists and tuples, their items ints, bools, texts, None, or such lists and tuples -/
inductive EqD (K : PySem.W.Frag) (H : Hp) : Nat → V → V → Bool → Prop where
  | flat {n : Nat} {x y : V} (fx : flatV x = true) (fy : flatV y = true) : EqD K H n x y (eqV x y)
  | same {n : Nat} {a : Addr} : EqD K H n (.ref a) (.ref a) true
  | lists {n : Nat} {a b : Addr} {xs ys : List V} {e : Nat → Bool} (ha : SqL K H a xs) (hb : SqL K H b ys) (hl : xs.length = ys.length) (he : ∀ j x y, xs[j]? = some x → ys[j]? = some y → EqD K H n x y (e j)) (ne : a ≠ b) :
      EqD K H (n + 1) (.ref a) (.ref b) ((List.range xs.length).all e)
  | longer {n : Nat} {a b : Addr} {xs ys : List V} (ha : SqL K H a xs) (hb : SqL K H b ys) (hl : xs.length ≠ ys.length) (ne : a ≠ b) : EqD K H (n + 1) (.ref a) (.ref b) false
  | tups {n : Nat} {a b : Addr} {xs ys : List V} {e : Nat → Bool} (ha : SqT K H a xs) (hb : SqT K H b ys) (he : ∀ j x y, xs[j]? = some x → ys[j]? = some y → EqD K H n x y (e j)) (ne : a ≠ b) :
      EqD K H (n + 1) (.ref a) (.ref b) ((List.range (min xs.length ys.length)).all e && xs.length == ys.length)
section
variable {X : Cx} {pins : List (Addr × Obj)} {σ : St} {H : Hp} {s : Shared}
theorem vals_at {xs : List V} {its : List Value} (r : Vals xs its) {j : Nat} (h : j < its.toArray.size) : ∃ x, xs[j]? = some x ∧ RelV x its.toArray[j] := by
  have h1 : j < its.length := by simpa using h
  have hl := r.length
  have e : xs[j]? = some (xs[j]'(by omega)) := List.getElem?_eq_getElem (by omega)
  obtain ⟨u, hu, ru⟩ := r.get e
  refine ⟨_, e, ?_⟩
  have : its[j]? = some its[j] := List.getElem?_eq_getElem h1
  rw [this] at hu
  cases hu
  simpa using ru
theorem EqD.at {K : PySem.W.Frag} {n : Nat} {x y : V} {b : Bool} (h : EqD K H n x y b) : ∀ {A : Around} {u v : Value}, X.K = K → Inv X pins σ H s → A.units + n < cLine → RelV x u → RelV y v → SeqAt.EqAt A s u v b := by
  induction h with
  | flat fx fy => intro A u v hK I hu rx ry; exact eqAt_V rx ry fx fy
  | @same n a =>
    intro A u v hK I hu rx ry
    cases rx; cases ry
    exact SeqAt.EqAt.same _
  | @lists n a b xs ys e ha hb hl he ne ih =>
    intro A u v hK I hu rx ry
    subst hK
    cases rx; cases ry
    obtain ⟨its, r, pl, hz⟩ := I.list ha
    obtain ⟨its2, r2, pl2, hz2⟩ := I.list hb
    have l1 := r.length
    have l2 := r2.length
    have q := SeqAt.RcAt.lists (A := A) (s := s) (e := e) pl.isList pl2.isList (by simp; omega) (by omega) (fun j h1 h2 => by
      obtain ⟨x, ex, rx⟩ := vals_at r h1
      obtain ⟨y, ey, ry⟩ := vals_at r2 h2
      exact ih j x y ex ey rfl I (by show A.units + 1 + n < cLine; omega) rx ry)
    rw [show its.toArray.size = xs.length by simp; omega] at q
    exact SeqAt.EqAt.of_refs ne q
  | @longer n a b xs ys ha hb hl ne =>
    intro A u v hK I hu rx ry
    subst hK
    cases rx; cases ry
    obtain ⟨its, r, pl, hz⟩ := I.list ha
    obtain ⟨its2, r2, pl2, hz2⟩ := I.list hb
    have l1 := r.length
    have l2 := r2.length
    exact SeqAt.EqAt.of_refs ne (SeqAt.RcAt.lists_lengths pl.isList pl2.isList (by simp; omega) (by omega))
  | @tups n a b xs ys e ha hb he ne ih =>
    intro A u v hK I hu rx ry
    subst hK
    cases rx; cases ry
    obtain ⟨its, r, pl, hz⟩ := I.tuple ha
    obtain ⟨its2, r2, pl2, hz2⟩ := I.tuple hb
    have l1 := r.length
    have l2 := r2.length
    have q := SeqAt.RcAt.tuples (A := A) (s := s) (e := e) (show s.heap.IsTuple a its.toArray from pl) (show s.heap.IsTuple b its2.toArray from pl2) (by omega) (fun j h1 h2 => by
      obtain ⟨x, ex, rx⟩ := vals_at r h1
      obtain ⟨y, ey, ry⟩ := vals_at r2 h2
      exact ih j x y ex ey rfl I (by show A.units + 1 + n < cLine; omega) rx ry)
    rw [show its.toArray.size = xs.length by simp; omega, show its2.toArray.size = ys.length by simp; omega] at q
    exact SeqAt.EqAt.of_refs ne q

/-- two lists, or two tuples, compared at the top -/
inductive EqT (K : PySem.W.Frag) (H : Hp) (n : Nat) : V → V → Bool → Prop where
  | lists {a b : Addr} {xs ys : List V} {e : Nat → Bool} (ha : SqL K H a xs) (hb : SqL K H b ys) (hl : xs.length = ys.length) (he : ∀ j x y, xs[j]? = some x → ys[j]? = some y → EqD K H n x y (e j)) :
      EqT K H n (.ref a) (.ref b) ((List.range xs.length).all e)
  | longer {a b : Addr} {xs ys : List V} (ha : SqL K H a xs) (hb : SqL K H b ys) (hl : xs.length ≠ ys.length) : EqT K H n (.ref a) (.ref b) false
  | tups {a b : Addr} {xs ys : List V} {e : Nat → Bool} (ha : SqT K H a xs) (hb : SqT K H b ys) (he : ∀ j x y, xs[j]? = some x → ys[j]? = some y → EqD K H n x y (e j)) :
      EqT K H n (.ref a) (.ref b) ((List.range (min xs.length ys.length)).all e && xs.length == ys.length)
def rEqT (K : PySem.W.Frag) (neg : Bool) : R2 := fun x y H Q => ∃ b, EqT K H 8 x y b ∧ Q (.bl (if neg then !b else b)) H
theorem op_eqT (hu : X.A.units + 64 < cLine) : OpR X (compareOp .Eq) (rEqT X.K false) := by
  intro pins s σ H x y v u Q I rx ry h
  obtain ⟨b, h, q⟩ := h
  have q' : Q (.bl b) H := q
  cases h with
  | @lists a b xs ys e ha hb hl he =>
    cases rx; cases ry
    obtain ⟨its, r, pl, hz⟩ := I.list ha
    obtain ⟨its2, r2, pl2, hz2⟩ := I.list hb
    have l1 := r.length
    have l2 := r2.length
    refine SeqAt.eq_listAt (e := e) pl.isList pl2.isList (by simp; omega) (by omega) (fun j h1 h2 => ?_) ?_
    · obtain ⟨x, ex, rx⟩ := vals_at r h1
      obtain ⟨y, ey, ry⟩ := vals_at r2 h2
      exact (he j x y ex ey).at rfl I (by show X.A.units + 1 + 8 < cLine; omega) rx ry
    · rw [show its.toArray.size = xs.length by simp; omega]
      exact ⟨.bl _, H, I, rfl, q'⟩
  | @longer a b xs ys ha hb hl =>
    cases rx; cases ry
    obtain ⟨its, r, pl, hz⟩ := I.list ha
    obtain ⟨its2, r2, pl2, hz2⟩ := I.list hb
    have l1 := r.length
    have l2 := r2.length
    exact SeqAt.eq_list_lengthsAt pl.isList pl2.isList (by simp; omega) (by omega) ⟨.bl _, H, I, rfl, q'⟩
  | @tups a b xs ys e ha hb he =>
    cases rx; cases ry
    obtain ⟨its, r, pl, hz⟩ := I.tuple ha
    obtain ⟨its2, r2, pl2, hz2⟩ := I.tuple hb
    have l1 := r.length
    have l2 := r2.length
    refine SeqAt.eq_tupleAt (e := e) (show s.heap.IsTuple a its.toArray from pl) (show s.heap.IsTuple b its2.toArray from pl2) (by omega) (fun j h1 h2 => ?_) ?_
    · obtain ⟨x, ex, rx⟩ := vals_at r h1
      obtain ⟨y, ey, ry⟩ := vals_at r2 h2
      exact (he j x y ex ey).at rfl I (by show X.A.units + 1 + 8 < cLine; omega) rx ry
    · rw [show its.toArray.size = xs.length by simp; omega, show its2.toArray.size = ys.length by simp; omega]
      exact ⟨.bl _, H, I, rfl, q'⟩

/-! ## is True, is not True -/

/-! ## isinstance -/
def rInst (K : PySem.W.Frag) : List V → Hp → VK → Prop := fun xs H Q => ∃ x n t b, xs = [x, .ty n] ∧ TyOf K H x t ∧ PySem.W.kitOne K t (.type n) = some b ∧ Q (.bl b) H

/-! ## "".join -/
def rJoin (K : PySem.W.Frag) : V → List V → Hp → VK → Prop := fun x vs H Q => ∃ sep a zs, x = .str sep ∧ vs = [.ref a] ∧ SqL K H a (zs.map V.str) ∧ (zs.map (·.length)).sum + zs.length * sep.length ≤ 16777216 ∧ Q (.str (Txt.join sep zs)) H
end
end L2

set_option Elab.async false
set_option linter.all false
set_option maxRecDepth 100000
namespace L2
open PySem PySem.Spec PyProof.Rows

/-! ## defs: what a call needs of one, in one word -/
/-- a def of the text, its defaults at dV -/
structure FunD (K : PySem.W.Frag) (x qual : Str) (st : Stmt) (dV : Value) (f : Addr) (fd : FuncData) : Prop where
  ex : ∃ (oc : Value) (od : Option Addr) (kV doc pm : Value) (an : Option Addr) (cdv ct : Value) (osl : Array (Option Value)),
    fd = PySem.W.fnOf x qual (defArgs st) (defBody st) (defScope st) dV kV doc pm an cdv ct ∧ K.lookup f = some ⟨oc, od, .func fd, osl⟩ ∧ PySem.W.codeIn K cdv qual = true
  kp : PySem.W.keepIn K (.ref f) = true
theorem funD_mk {K : PySem.W.Frag} {x qual : Str} {st : Stmt} {dV : Value} {f : Addr} {oc : Value} {od an : Option Addr} {osl : Array (Option Value)} {kV doc pm cdv ct : Value}
    (l : K.lookup f = some ⟨oc, od, .func (PySem.W.fnOf x qual (defArgs st) (defBody st) (defScope st) dV kV doc pm an cdv ct), osl⟩)
    (c : PySem.W.codeIn K cdv qual = true) (k : PySem.W.keepIn K (.ref f) = true) : FunD K x qual st dV f (PySem.W.fnOf x qual (defArgs st) (defBody st) (defScope st) dV kV doc pm an cdv ct) := ⟨⟨oc, od, kV, doc, pm, an, cdv, ct, osl, rfl, l, c⟩, k⟩
section
variable {P : Program} {w : World} {K : PySem.W.Frag} {mg : Str → Option Value} {base : Heap}
theorem FunD.ok {x qual : Str} {st : Stmt} {dV : Value} {f : Addr} {fd : FuncData} {N ps : List Str} {k : Nat} {sp : Sp} (F : FunD K x qual st dV f fd) (S : FnScope N ps (defScope st)) (len : ∀ vs H Q E, sp vs H Q E → vs.length = ps.length)
    (hbody : ∀ (cdv : Value) (A : Around) (outer : List Env) (s : Shared) (H : Hp) (vs : List V) (Q : VK) (E : XK), Room k (A.deeper (envOfC qual (defScope st) s.heap.objs.size f cdv)) → sp vs H Q E →
      ∃ t, PSs (cxOf CX0 P w K mg base N qual (defScope st) f cdv A outer s H E).nox (defBody st) t ∧ t { nx := fun _ H' => Q .non H', rt := Q } (start N vs) H) : FnOk P w K mg base CX0 (k + 1) f fd ps sp := by
  obtain ⟨oc, od, kV, doc, pm, an, cdv, ct, osl, rfl, lk, hcd⟩ := F.ex
  refine fn_of lk hcd S len fun A outer s H vs Q E hr hsp => ?_
  obtain ⟨t, h, q⟩ := hbody cdv A outer s H vs Q E hr hsp
  exact ⟨t, h.nox, q⟩
theorem FunD.binds {x qual : Str} {st : Stmt} {f : Addr} {fd : FuncData} {ps : List Str} (F : FunD K x qual st .none f fd)
    (h : ∀ (kV doc pm : Value) (an : Option Addr) (cdv ct : Value) (us : List Value), us.length = ps.length → bindArgs (PySem.W.fnOf x qual (defArgs st) (defBody st) (defScope st) .none kV doc pm an cdv ct) ⟨us, []⟩ = pure (ps.zip us)) : Binds K fd ps [] := by
  obtain ⟨oc, od, kV, doc, pm, an, cdv, ct, osl, rfl, lk, hcd⟩ := F.ex
  exact .all (h kV doc pm an cdv ct)
/-- the def x of the module, known by a promise: at most k calls deep -/
def Fn (P : Program) (w : World) (K : PySem.W.Frag) (mg : Str → Option Value) (base : Heap) (CX : CXT) (x : Str) (ps : List Str) (dvs : List V) (k : Nat) (sp : Sp) : Prop :=
  ∃ (f : Addr) (fd : FuncData) (ds : List Value), FnOk P w K mg base CX k f fd ps sp ∧ Binds K fd ps ds ∧ Vals dvs ds ∧ PySem.W.keepIn K (.ref f) = true ∧ mg x = some (.ref f)
end
section
variable {X : Cx} {CX : CXT} {k : Nat} {ps : List Str} {sp : Sp} {dvs : List V} {x : Str} {p pos : Pos} {e : Expr} {es : List Expr} {t : TA}
theorem pe_fnX {j : Nat} {E : XK} (F : Fn X.prog X.w X.K X.mg X.base CX x ps dvs k sp) (hr : Room j X.A) (hj : k ≤ j) (hg : Gl X x) (hx : Passes CX X E) (ha : PA X (e :: es) t) (hdb : (x == ("__debug__" : Str)) = false := by decide)
    (he : starEach (e :: es) X.env = (false, eval e X.env) :: starEach es X.env := by rfl) (hpl : (backTo pos (starEach es X.env)).any (·.1) = false := by rfl) : PE X (.Call (.Name x p) (e :: es) [] pos) (tCall sp dvs E t) := by
  obtain ⟨f, fd, ds, F, hb, hd, hk, hm⟩ := F
  exact pe_call F (hr.mono hj) hg hm hk hb hd hx ha hdb he hpl
theorem pe_fn {j : Nat} (F : Fn X.prog X.w X.K X.mg X.base CX0 x ps dvs k sp) (hr : Room j X.A) (hj : k ≤ j) (hg : Gl X x) (ha : PA X (e :: es) t) (hdb : (x == ("__debug__" : Str)) = false := by decide)
    (he : starEach (e :: es) X.env = (false, eval e X.env) :: starEach es X.env := by rfl) (hpl : (backTo pos (starEach es X.env)).any (·.1) = false := by rfl) : PE X (.Call (.Name x p) (e :: es) [] pos) (tCall sp dvs E0 t) :=
  pe_fnX F hr hj hg pass0 ha hdb he hpl
theorem compOk {scope : Scope} {N' : List Str} {js : List (Option Nat)} {N : List Str} {sc : Scope} (h1 : X.N = N) (h2 : X.env.scope = sc) (kind : scope.kind = .function) (nocell : ∀ y ∈ scope.names, y.2 ≠ .cell) (loc : ∀ y ∈ scope.names, y.2 = .local → scope.names.lookup y.1 = some .local)
    (free : ∀ y ∈ scope.names, y.2 = .free → sc.names.lookup y.1 = some .cell) (len : js.length = N'.length) (jok : jsOk N N' scope js = true) : CompOk X scope N' js := by
  subst h1 h2
  exact ⟨kind, nocell, loc, free, len, jok⟩
end

/-! ## heaps -/
theorem same_upd_new {H : Hp} {p : Addr} (h : H p = none) (o : HO) : Same H (upd H p o) := fun b u q => by rw [upd_ne (ne_of_none q h)]; exact q
/-- what was new stays apart when it is changed -/
theorem Same.upd {H H' : Hp} {p : Addr} (h : Same H H') (n : H p = none) (o : HO) : Same H (upd H' p o) := fun b u q => by rw [upd_ne (ne_of_none q n)]; exact h b u q
theorem atI_int {xs : List Int} {i : Int} {v : Int} (h0 : 0 ≤ i) (h : xs[i.toNat]? = some v) : atI (xs.map V.int) i = some (.int v) := by
  have e : i = ((i.toNat : Nat) : Int) := by omega
  rw [e]
  exact atI_nat (by rw [List.getElem?_map, h]; rfl)
theorem small60 {n : Nat} (h : n ≤ 1000000) : n ≤ sizeLine := Nat.le_trans h (by decide)
end L2

set_option Elab.async false
set_option linter.all false
set_option maxRecDepth 100000
namespace L2
open PySem PySem.Spec PyProof.Rows
theorem toB {Q : VK} {H : Hp} {b b' : Bool} (q : Q (.bl b) H) (e : b = b') : Q (.bl b') H := e ▸ q
theorem toI {Q : VK} {H : Hp} {b b' : Int} (q : Q (.int b) H) (e : b = b') : Q (.int b') H := e ▸ q
/-! ## loops over pairs -/
theorem for_enum {K : PySem.W.Frag} {a : Addr} {xs : List V} {g : TG} {tb : TS} {D : Ends} {σ : St} {H : Hp} (Pv : Nat → St → Hp → Prop) (h0 : Pv 0 σ H) (hl : ∀ i σ H, i ≤ xs.length → Pv i σ H → SqL K H a xs)
    (hs : ∀ i x σ H p, xs[i]? = some x → Pv i σ H → H p = none → g (.ref p) σ (upd H p (.tup [.int i, x])) fun σ2 H2 => tb { D with nx := Pv (i + 1), ct := Pv (i + 1), bk := D.nx } σ2 H2) (hd : ∀ σ H, Pv xs.length σ H → D.nx σ H) :
    ∃ W : Nat → Nat → St → Hp → Prop, (∃ m, W 0 m σ H) ∧ ∀ i m σ H, W i m σ H →
      ((Ite K a).stop i H ∧ D.nx σ H) ∨ ((Ite K a).go i H ∧ ∃ N : St → Hp → Prop, (∀ σ' H', N σ' H' → ∃ m', m' < m ∧ W (i + 1) m' σ' H') ∧ ∀ x H', (Ite K a).yld i H x H' → g x σ H' fun σ2 H2 => tb { D with nx := N, ct := N, bk := D.nx } σ2 H2) := by
  refine ⟨fun i m σ H => m = xs.length - i ∧ i ≤ xs.length ∧ Pv i σ H, ⟨xs.length, by simp, Nat.zero_le _, h0⟩, ?_⟩
  rintro i m σ H ⟨rfl, hi, p⟩
  have q := hl i σ H hi p
  by_cases hlt : i < xs.length
  · refine .inr ⟨⟨xs, xs[i], q, by simp [hlt]⟩, Pv (i + 1), fun σ' H' p' => ⟨xs.length - (i + 1), by omega, rfl, hlt, p'⟩, fun x H' y => ?_⟩
    obtain ⟨r, v, rfl, hr, rfl, y⟩ := y
    exact hs i v σ H r (y xs q) p hr
  · have e : i = xs.length := by omega
    subst e
    exact .inl ⟨⟨xs, q, Nat.le_refl _⟩, hd σ H p⟩
theorem for_enumS {z : Str} {g : TG} {tb : TS} {D : Ends} {σ : St} {H : Hp} (Pv : Nat → St → Hp → Prop) (h0 : Pv 0 σ H)
    (hs : ∀ i c σ H p, z.cps[i]? = some c → Pv i σ H → H p = none → g (.ref p) σ (upd H p (.tup [.int i, .str ⟨#[c]⟩])) fun σ2 H2 => tb { D with nx := Pv (i + 1), ct := Pv (i + 1), bk := D.nx } σ2 H2) (hd : ∀ σ H, Pv z.cps.size σ H → D.nx σ H) :
    ∃ W : Nat → Nat → St → Hp → Prop, (∃ m, W 0 m σ H) ∧ ∀ i m σ H, W i m σ H →
      ((Ites z).stop i H ∧ D.nx σ H) ∨ ((Ites z).go i H ∧ ∃ N : St → Hp → Prop, (∀ σ' H', N σ' H' → ∃ m', m' < m ∧ W (i + 1) m' σ' H') ∧ ∀ x H', (Ites z).yld i H x H' → g x σ H' fun σ2 H2 => tb { D with nx := N, ct := N, bk := D.nx } σ2 H2) := by
  refine ⟨fun i m σ H => m = z.cps.size - i ∧ i ≤ z.cps.size ∧ Pv i σ H, ⟨z.cps.size, by simp, Nat.zero_le _, h0⟩, ?_⟩
  rintro i m σ H ⟨rfl, hi, p⟩
  by_cases hlt : i < z.cps.size
  · refine .inr ⟨hlt, Pv (i + 1), fun σ' H' p' => ⟨z.cps.size - (i + 1), by omega, rfl, hlt, p'⟩, fun x H' y => ?_⟩
    obtain ⟨r, c, rfl, hr, rfl, y⟩ := y
    exact hs i c σ H r y p hr
  · have e : i = z.cps.size := by omega
    subst e
    exact .inl ⟨rfl, hd σ H p⟩
/-! ## a list comprehension without tests, the heap growing only -/
theorem comp_all {J : It} {g : TG} {te : TE} {p : Addr} {H : Hp} {σ0 : St} {Fin : Hp → Prop} (n : Nat) (items : Nat → V) (Sg : St → Prop) (hn : n ≤ sizeLine) (h0 : Sg σ0) (hp : H p = none)
    (hJ : ∀ i H', i < n → Same H H' → J.go i H') (hE : ∀ H', Same H H' → J.stop n H')
    (ht : ∀ i x σ' H' H2 (k : St → V → Hp → Prop), i < n → Sg σ' → Same H H' → J.yld i H' x H2 → (∀ σ3 y H4, Sg σ3 → y = items i → Same H' H4 → k σ3 y H4) → g x σ' H2 fun σ3 H3 => te σ3 H3 fun y H4 => k σ3 y H4)
    (fin : ∀ H', Same H H' → H' p = some (.lst ((List.range n).map items)) → Fin H') :
    ∃ W : Nat → Nat → List V → St → Hp → Prop, (∃ m, W 0 m [] σ0 (upd H p (.lst []))) ∧ CompW J g tAlways te p W Fin := by
  refine ⟨fun i m ys σ' H' => m = n - i ∧ i ≤ n ∧ ys = (List.range i).map items ∧ Sg σ' ∧ Same H H' ∧ H' p = some (.lst ys), ⟨n, by simp, Nat.zero_le _, by simp, h0, same_upd_new hp _, upd_same⟩, ?_⟩
  rintro i m ys σ' H' ⟨rfl, hi, rfl, hS, hH, hacc⟩
  refine ⟨hacc, ?_⟩
  by_cases hlt : i < n
  · refine .inr ⟨hJ i H' hlt hH, fun x H2 y => ?_⟩
    refine ht i x σ' H' H2 (fun σ2 y H4 => H4 p = some (.lst ((List.range i).map items)) ∧ ((List.range i).map items).length < sizeLine ∧ ∃ m', m' < n - i ∧ m' = n - (i + 1) ∧ i + 1 ≤ n ∧ (List.range i).map items ++ [y] = (List.range (i + 1)).map items ∧ Sg σ2 ∧ Same H (upd H4 p (.lst ((List.range i).map items ++ [y]))) ∧ upd H4 p (.lst ((List.range i).map items ++ [y])) p = some (.lst ((List.range i).map items ++ [y]))) hlt hS hH y (fun σ3 y H4 s3 ey sm => ?_)
    subst ey
    refine ⟨sm _ _ hacc, by rw [List.length_map, List.length_range]; omega, n - (i + 1), by omega, rfl, hlt, ?_, s3, (hH.trans sm).upd hp _, upd_same⟩
    rw [List.range_succ, List.map_append]
    rfl
  · have e : i = n := by omega
    subst e
    exact .inl ⟨hE H' hH, fin H' hH hacc⟩
end L2

set_option Elab.async false
set_option linter.all false
set_option maxRecDepth 100000
namespace L2
open PySem PySem.Spec PyProof.Rows
end L2
namespace L2
open PySem PySem.Spec PyProof.Rows
section
variable {X : Cx} {K : PySem.W.Frag} {pos : Pos}
theorem ix_listK (h : X.K = K) : IxR X (rIxL K) := h ▸ ix_list
end
end L2
namespace L2
theorem ixN_nat {n i : Nat} (h : i < n) : ixN n (i : Int) = some i := by
  unfold ixN
  rw [if_pos (by omega), if_pos (by omega)]
  simp
end L2
namespace L2
open PySem PySem.Spec PyProof.Rows
/-- a def of two parameters, the second with a default, called with one -/
theorem binds_d1 {K : PySem.W.Frag} {fd : FuncData} {x y : Str} {T : Addr} {o : Obj} {d : Value} {n : Nat} (hd : fd.defaults = .ref T) (ht : K.lookup T = some o) (hs : o.data = .seq #[d] n)
    (h : ∀ u : Value, ∃ k : Option (Array Value) → Sem (List (Str × Value)), bindArgs fd ⟨[u], []⟩ = seqItems? fd.defaults >>= k ∧ k (some #[d]) = pure [(x, u), (y, d)]) : Binds K fd [x, y] [d] := by
  intro s us hK hl
  have hl1 : us.length = 1 := by simpa using hl
  match us, hl1 with
  | [u], _ =>
    obtain ⟨k, h1, h2⟩ := h u
    exact .of_defaults hd (hK _ _ ht) hs h1 h2
end L2

set_option Elab.async false
set_option linter.all false
set_option maxRecDepth 100000
namespace L2
open PySem PySem.Spec PyProof.Rows
section
variable {X : Cx} {a b c d : Expr} {ta tb tc td : TE} {pos : Pos}
/-- a op b op c op d, as a test -/
def tChain3 (r r' r'' : R2) (ta tb tc td : TE) : TT := fun σ H Q => ta σ H fun x H1 => tb σ H1 fun y H2 => r x y H2 fun z H3 => ∃ k, z = .bl k ∧
  (if k = true then tc σ H3 fun w' H4 => r' y w' H4 fun z2 H5 => ∃ k2, z2 = .bl k2 ∧ (if k2 = true then td σ H5 fun v' H6 => r'' w' v' H6 fun z3 H7 => ∃ k3, z3 = .bl k3 ∧ Q k3 H7 else Q false H5) else Q false H3)
end
/-- a def of two parameters, the second with a default, called with both -/
theorem binds_d2 {K : PySem.W.Frag} {fd : FuncData} {x y : Str} {T : Addr} {o : Obj} {d : Value} {n : Nat} (hd : fd.defaults = .ref T) (ht : K.lookup T = some o) (hs : o.data = .seq #[d] n)
    (h : ∀ u v : Value, ∃ k : Option (Array Value) → Sem (List (Str × Value)), bindArgs fd ⟨[u, v], []⟩ = seqItems? fd.defaults >>= k ∧ k (some #[d]) = pure [(x, u), (y, v)]) : Binds K fd [x, y] [] := by
  intro s us hK hl
  have hl1 : us.length = 2 := by simpa using hl
  match us, hl1 with
  | [u, v], _ =>
    obtain ⟨k, h1, h2⟩ := h u v
    exact .of_defaults hd (hK _ _ ht) hs h1 h2
end L2

set_option Elab.async false
set_option linter.all false
set_option maxRecDepth 100000
namespace L2
open PySem PySem.Spec PyProof.Rows Builtin.Getset_descriptor

/-! ## isinstance of an own exception -/
/-- what the fragment knows of an own error class -/
structure ExcC (K : PySem.W.Frag) (C : Addr) : Prop where
  cls : (PySem.W.clsIn K C).isSome = true
  ga : PySem.W.findIn K (.ref C) "__getattribute__" = some (some (.builtin "BaseException.__getattribute__"))
  hook : PySem.W.findIn K (.ref C) "__getattr__" = some none
  cl : PySem.W.findIn K (.ref C) "__class__" = some (some (.builtin "object.__class__"))
  gt : PySem.W.specialIn K (.builtin "object.__class__") "__get__" = some (some (.builtin "getset_descriptor.__get__"))
  tk : PySem.W.takesIn K (.builtin "object.__class__") = some true
  ob : PySem.W.mroIn K C (.type "object") = some true
  be : PySem.W.mroIn K C (.type "BaseException") = some true
/-- a record of the class at C -/
def ExcAt (x C : Addr) (h : Heap) : Prop := ∃ ox, h.get? x = some ox ∧ ox.cls = .ref C
theorem ExcAt.keep {x C : Addr} {h1 h2 : Heap} (p : ExcAt x C h1) (k : ∀ o, h1.get? x = some o → h2.get? x = some o) : ExcAt x C h2 := by
  obtain ⟨ox, e, c⟩ := p
  exact ⟨ox, k _ e, c⟩
theorem ExcAt.ty {x C : Addr} {h : Heap} (p : ExcAt x C h) {M : Model} : PySem.W.Looks M h (typeOf (.ref x)) (.ref C) := by
  obtain ⟨ox, e, c⟩ := p
  rw [← c]
  exact (PySem.W.Looks.ld e).andThen .now
section
variable {prog : Program} {w : World} {A : Around} {E : Value → Shared → Prop} {s : Shared} {K : PySem.W.Frag} {x C : Addr}
/-- __class__ is a data descriptor of the class -/
theorem exc_find {M : Model} {h : Heap} (c : ExcC K C) (X : K.In h) :
    PySem.W.Looks M h (Builtin.ObjectAttr.find (.ref x) (.ref C) "__class__") (.bind (.builtin "getset_descriptor.__get__") (.builtin "object.__class__")) := by
  have l1 := PySem.W.looks_findIn (M := M) X c.cl
  have l2 := PySem.W.looks_specialIn (M := M) X c.gt
  have l3 := PySem.W.looks_takesIn (M := M) X c.tk
  have l4 : PySem.W.Looks M h (Builtin.ObjectAttr.dataDescriptor? (some (.builtin "object.__class__")) (some (.builtin "getset_descriptor.__get__"))) (some (.builtin "getset_descriptor.__get__", .builtin "object.__class__")) := l3.andThen .now
  refine l1.andThen (l2.andThen (l4.andThen ?_))
  exact PySem.W.Looks.tag .now
/-- the descriptor's own call -/
theorem exc_get {R : Result → Shared → Prop} {tp : Value} (c : ExcC K C) (X : K.In s.heap) (I : ExcAt x C s.heap) (h : R (.ok (.ret (.ref C))) s) :
    codeAny (model prog w) A (.call (.builtin "getset_descriptor.__get__") ⟨[.builtin "object.__class__", .ref x, tp], []⟩) R s := by
  obtain ⟨hh, gg, dd, tt, oo⟩ := s
  have l0 := I.ty (M := model prog w)
  have l1 := PySem.W.looks_mroIn (M := model prog w) X c.ob
  have ck := PySem.W.KF.slot_gs.check (model prog w)
  refine codeAny_call_builtin PySem.W.KF.slot_gs.plain
    PySem.W.KF.entry_gs (PySem.W.KF.slot_gs.check _ _ _ _ _ _ _ _
      PySem.W.KF.type_class (PySem.W.KF.args_gs _ _ _) ?_)
  unfold Builtin.«getset_descriptor.__get__»
  unfold descrGet
  rw [PySem.W.dga_obj]
  refine wpAny_bind (wpAny_pure ?_)
  unfold descrGetter
  unfold descrCheckInstance
  unfold descrNameAndClass
  unfold isInstance
  simp only [PySem.W.KF.owner_class]
  repeat lk
  refine ⟨Code.quiet_builtin _ (by decide +kernel),
    codeAny_builtin PySem.W.KF.entry_class ?_⟩
  unfold Builtin.«object.__class__»
  unfold shownTypeOf
  repeat lk
  exact h
end
end L2

set_option Elab.async false
set_option linter.all false
set_option maxRecDepth 100000
namespace L2
open PySem PySem.Spec PyProof.Rows
section
variable {prog : Program} {w : World} {A : Around} {E : Value → Shared → Prop} {s : Shared} {K : PySem.W.Frag} {x C : Addr}
theorem exc_entry {tk : Tok} {Q : Fin → Shared → Prop} (c : ExcC K C) (X : K.In s.heap) (I : ExcAt x C s.heap) (h : Q (.done (.ret (.ref C))) s) :
    wpAny (model prog w) A (Builtin.«object.__getattribute__» ⟨[.ref x, .str "__class__" tk], []⟩) Q E s := by
  obtain ⟨hh, gg, d, t, os⟩ := s
  have L0 := I.ty (M := model prog w)
  have L1 := exc_find (M := model prog w) (x := x) c X
  refine wpAny_bind (wpAny_pure (wpAny_bind (wpAny_pure (wpAny_bind (L0.at (wpAny_bind (L1.at ?_)))))))
  show wpAny _ _ (holding [Value.builtin "object.__class__"] (call (.builtin "getset_descriptor.__get__") [.builtin "object.__class__", .ref x, .ref C]) >>= ret) _ _ _
  refine wpAny_bind (wpAny_holding (wpAny_call (exc_get (s := ⟨hh, gg, d, t, os⟩) c X I ?_)))
  exact wpAny_pure h
theorem exc_check {M : Model} {nameV : Value} {Q : Unit → Shared → Prop} (c : ExcC K C) (X : K.In s.heap) (I : ExcAt x C s.heap) (h : Q () s) :
    wpAny M A (checkBuiltinCall "BaseException.__getattribute__" ⟨[.ref x, nameV], []⟩) Q E s := by
  have hk : builtinKind "BaseException.__getattribute__" = some .slot := by decide +kernel
  have hsplit : splitId "BaseException.__getattribute__" = some ("BaseException", "__getattribute__") := by decide +kernel
  have ha := F.args_bexc_ga (.ref x) nameV
  obtain ⟨hh, gg, d, t, os⟩ := s
  have L0 := I.ty (M := M)
  have L1 := PySem.W.looks_mroIn (M := M) X c.be
  simp only [checkBuiltinCall, hk, hsplit]
  refine wpAny_bind ?_
  unfold isInstance
  refine wpAny_bind (L0.at (L1.at ?_))
  repeat (first | assumption | wp_step)
theorem exc_call {tk : Tok} {R : Result → Shared → Prop} (c : ExcC K C) (X : K.In s.heap) (I : ExcAt x C s.heap) (h : R (.ok (.ret (.ref C))) s) :
    codeAny (model prog w) A (.call (.builtin "BaseException.__getattribute__") ⟨[.ref x, .str "__class__" tk], []⟩) R s :=
  codeAny_call_builtin F.excAttr_ValueError.ga.plain F.entry_bexc_ga (exc_check c X I (exc_entry c X I h))
theorem exc_attr {Q : Option Value → Shared → Prop} (c : ExcC K C) (X : K.In s.heap) (I : ExcAt x C s.heap) (h : Q (some (.ref C)) { s with toks := s.toks + 1 }) :
    wpAny (model prog w) A (getAttr? (.ref x) "__class__") Q E s := by
  obtain ⟨hh, gg, d, t, os⟩ := s
  have L0 := I.ty (M := model prog w)
  have L1 := PySem.W.looks_findIn (M := model prog w) X c.ga
  have L2' := PySem.W.looks_findIn (M := model prog w) X c.hook
  unfold getAttr? getAttrBy? getAttrBy
  refine wpAny_bind (wpAny_mkText (wpAny_bind (wpAny_attempt (wpAny_holding (wpAny_bind (L0.at (wpAny_bind (L1.at ?_))))))))
  show wpAny _ _ (getAttrByItsOwn _ _ _ _ _ _) _ _ _
  unfold getAttrByItsOwn hookBefore callGetattribute
  rw [if_pos (show onTheHeap (Value.ref C) = true from rfl)]
  refine wpAny_bind (L2'.at (wpAny_bind (wpAny_attempt (wpAny_holding ?_))))
  rw [if_neg (by decide)]
  unfold boundAndCalled
  have f3 := F.excAttr_ValueError.ga.bind (.ref x)
  refine wpAny_bind (wpAny_of_eq f3 ?_)
  refine wpAny_call (exc_call (s := ⟨hh, gg, d, t + 1, os⟩) c X I ?_)
  show wpAny _ _ (handedOut (.ref C)) _ _ _
  exact PySem.W.handed_on rfl (wpAny_pure h)
theorem kitx_exc (c : ExcC K C) : PySem.W.KitX K (.ref x) (.ref C) (ExcAt x C) where
  ty := fun _ _ _ I => I.ty
  it := fun _ _ X _ => by
    obtain ⟨cdD, hcD⟩ := Option.isSome_iff_exists.mp c.cls
    unfold PySem.W.clsIn at hcD
    split at hcD
    · rename_i c' d' cd' sl' ho
      intro A' Q' E' s' k q
      unfold isType loadHead
      exact wpAny_bind (wpAny_loadPart (k _ _ (X _ _ ho)) (wpAny_pure q))
    · cases hcD
  ne := fun h tp dd its n sl X htp => by
    obtain ⟨cdD, hcD⟩ := Option.isSome_iff_exists.mp c.cls
    refine Bool.eq_false_iff.mpr fun q => ?_
    have e : C = tp := Value.ref.inj (beq_iff_eq.mp q)
    subst e
    unfold PySem.W.clsIn at hcD
    split at hcD
    · rename_i c' d' cd' sl' ho
      have z := (X _ _ ho).symm.trans htp
      cases z
    · cases hcD
  ca := fun X I k => exc_attr c X I k
end

/-! ## an exception in the abstract heap -/
/-- an own exception of the class at C -/
def excO (x C : Addr) : HO := .ext (ExcAt x C)
theorem excO_ok {P : Program} {w : World} {H : Hp} {h : Heap} {x C : Addr} (p : ExcAt x C h) : ObjOk P w H h x (excO x C) :=
  ⟨p, ⟨_, p.choose_spec.1⟩, fun _ _ q k => q.keep k⟩
/-- a class as a value -/
def clsV : V → Option Value
  | .ref a => some (.ref a)
  | .ty n => some (.type n)
  | _ => none
section
variable {X : Cx}
/-- isinstance(e, c), e an own exception: kitOne's answer -/
theorem call_instE : CallR X (.builtin "isinstance") (fun xs H Q => ∃ (x C : Addr) (c : V) (cv : Value) (b : Bool), xs = [.ref x, c] ∧ H x = some (excO x C) ∧ ExcC X.K C ∧ clsV c = some cv ∧ PySem.W.kitOne X.K (.ref C) cv = some b ∧ Q (.bl b) H) := by
  intro pins s σ H xs us Q I rv h
  obtain ⟨x, C, c, cv, b, rfl, hx, hc, hcv, e, q⟩ := h
  obtain ⟨u, v, rfl, r1, r2⟩ := rv.two
  cases r1
  have hv : v = cv := by
    cases c <;> first | (cases hcv; exact r2) | cases hcv
  subst hv
  have p : ExcAt x C s.heap := (I.hok x _ hx).1
  exact PySem.W.kia_one (kitx_exc hc) I.kIn p e (fun z => nomatch z) fun tk => ⟨.bl b, H, I.tok tk, rfl, q⟩
end
end L2

set_option Elab.async false
set_option linter.all false
set_option maxRecDepth 100000
namespace L2
open PySem PySem.Spec PyProof.Rows

/-! ## the class of an own error, out of the fragment -/
abbrev veMro : List Value := [.type "ValueError", .type "Exception", .type "BaseException", .type "object"]
/-- the object of such a class, as the rules of raise want it -/
def OwnObj (C : Addr) (h : Heap) : Prop :=
  ∃ bm N nm q bs hdct sn sub ab col dd k0 k1 k2 k3 k5 mN, h.get? C = some (excClassObj nm q C N bs bm hdct sn sub ab col dd k0 k1 k2 k3 k5 "ValueError.__new__") ∧ h.Ns N mN ∧ mN "__init__" = none ∧ OwnTail h veMro bm
theorem own_obj {K : PySem.W.Frag} {h : Heap} {C : Addr} (X : K.In h) (q : PySem.W.excIn K C veMro "ValueError.__new__" = true) : OwnObj C h := by
  unfold PySem.W.excIn at q
  split at q
  case h_2 => exact absurd q Bool.false_ne_true
  case h_1 dd cd sl ho =>
    split at q
    case h_2 => exact absurd q Bool.false_ne_true
    case h_1 C' bm k0 k1 k2 k3 n k5 hm hs =>
      simp only [Bool.and_eq_true, beq_iff_eq, Bool.not_eq_true'] at q
      obtain ⟨⟨⟨⟨⟨z1, z2⟩, z3⟩, z4⟩, z5⟩, z6⟩ := q
      subst z1 z2
      cases cd
      rename_i nm bs mro ns qn hd sn sub ab col del
      simp only at hm z3 z5 z6
      subst hm z3
      have es : sl = #[k0, k1, k2, k3, some (.builtin "ValueError.__new__"), k5] := by
        cases sl
        simp only at hs
        rw [hs]
      subst es
      refine ⟨bm, ns, nm, qn, bs, hd, sn, sub, ab, col, dd, k0, k1, k2, k3, k5, h.nsMap ns, X _ _ ho, ?_, ?_, PySem.W.tail_of_in X z4⟩
      · exact .of_isNs (PySem.W.isNs_of_in X z5)
      · exact PySem.W.nsMap_none_of_in X z5 z6

/-! ## raise C(..) -/
section
variable {X : Cx} {C : Addr} {x : Str} {np cpos pos : Pos} {e : Expr} {es : List Expr} {t : TA}
/-- raise x(..), x the own error class at C; Ex: what is wanted of it -/
def tRaise (C : Addr) (Ex : XK) (t : TA) : TS := fun _ σ H => t σ H fun vs H1 => vs.length ≤ sizeLine ∧ Ex (.ref C) none H1
/-- an own error that was just made reaches what is wanted -/
def Throws (X : Cx) (C : Addr) (Ex : XK) : Prop := ∀ (pins : List (Addr × Obj)) (σ : St) (H : Hp) (s : Shared) (h' : Heap) (a : Addr) (vs : List Value), Inv X pins σ H s → Heap.MadeExcOf s.heap h' a (.ref C) vs → Ex (.ref C) none H → X.xe (.ref a) { s with heap := h' }
theorem ps_raise {Ex : XK} (hc : X.calm = true) (hg : Gl X x) (hm : X.mg x = some (.ref C)) (q : PySem.W.excIn X.K C veMro "ValueError.__new__" = true) (hx : Throws X C Ex) (ha : PA X (e :: es) t)
    (hdb : (x == ("__debug__" : Str)) = false := by decide) (he : starEach (e :: es) X.env = (false, eval e X.env) :: starEach es X.env := by rfl) (hpl : (backTo cpos (starEach es X.env)).any (·.1) = false := by rfl) :
    PS X (.Raise (some (.Call (.Name x np) (e :: es) [] cpos)) none pos) (tRaise C Ex t) := by
  intro pins s σ H D I h
  obtain ⟨bm, N, nm, qn, bs, hdct, sn, sub, ab, col, dd, k0, k1, k2, k3, k5, mN, hC, hN, hni, T⟩ := own_obj I.ok.mod.kin q
  refine wpAny_Raise_call_subT (C := C) (nm := nm) (q := qn) (N := N) (bs := bs) (bm := bm) (hdct := hdct) (sn := sn) (sub := sub) (ab := ab) (col := col) (dd := dd) (k0 := k0) (k1 := k1) (k2 := k2) (k3 := k3) (k5 := k5)
    F.excBase_ValueError (mN := mN) (T.hasType F.excBase_ValueError.hasBase) (I.ok.hd hc) (by rw [he]; show (false || (backTo cpos (starEach es X.env)).any (·.1)) = false; rw [hpl]; rfl) hni (ld_glob I hg hm ⟨rfl, ?_⟩ hdb)
  have step := ha cpos pins s σ H _ I h
  rw [he] at step ⊢
  refine Calls.evalArgs_plain (thn step fun us s2 ⟨vs, H2, I2, r2, z2, q2⟩ => ⟨rfl, ?_, ?_⟩)
  · show us.length ≤ sizeLine
    rw [← r2.length]; exact z2
  · exact ⟨I2.bk _ _ hC, hN.keeps I2.bk, T.keeps I2.bk, fun h' a hx' => hx pins σ H2 s2 h' a us I2 hx' q2⟩
end
end L2

set_option Elab.async false
set_option linter.all false
set_option maxRecDepth 100000
namespace L2
open PySem PySem.Spec PyProof.Rows

/-! ## an exception on its way -/
theorem ObjOk.there {P : Program} {w : World} {H : Hp} {h : Heap} {a : Addr} {o : HO} (x : ObjOk P w H h a o) : ∃ ob, h.get? a = some ob := by
  cases o with
  | lst xs => obtain ⟨_, _, _, _, e⟩ := x; exact ⟨_, e⟩
  | tup xs => obtain ⟨_, _, _, _, e, _⟩ := x; exact ⟨_, e⟩
  | dK kvs => obtain ⟨_, _, _, _, o, _, _, e, _⟩ := x; exact ⟨_, e⟩
  | dT kvs => obtain ⟨_, _, _, _, o, _, _, e, _⟩ := x; exact ⟨_, e⟩
  | set S n => obtain ⟨o, _, _, _, e, _⟩ := x; exact ⟨_, e⟩
  | ins C dx fs => obtain ⟨_, _, _, e, _⟩ := x; exact ⟨_, e⟩
  | own y => obtain ⟨_, e⟩ := x; exact ⟨_, e⟩
  | xd fs => obtain ⟨_, ⟨_, _, _, e, _⟩, _⟩ := x; exact ⟨_, e⟩
  | rng lo hi => obtain ⟨_, _, _, e⟩ := x; exact ⟨_, e⟩
  | frz ob u => obtain ⟨e, _⟩ := x; exact ⟨_, e⟩
  | tbl ps => exact ⟨_, (show h.get? a = some _ from x)⟩
  | met f y => exact ⟨_, (show h.get? a = some _ from x)⟩
  | ext φ => obtain ⟨_, ⟨_, e⟩, _⟩ := x; exact ⟨_, e⟩
/-- the record x of the class at C, new since h0 and untracked, its newest entry T likewise, at rest -/
def Fly (h0 : Heap) (H : Hp) (x C : Addr) (h : Heap) : Prop := H x = none ∧ h0.get? x = none ∧ ∃ T, T ≠ x ∧ H T = none ∧ h0.get? T = none ∧
  ∃ oe vs oT ts a0, h.get? x = some oe ∧ oe.cls = .ref C ∧ vs[0]? = some a0 ∧ oe.data = .fields vs ∧ vs[1]? = some (.ref T) ∧ h.get? T = some oT ∧ oT.data = .fields ts ∧ ts[3]? = some .none
/-- how an own exception lies behind a call -/
def CXE (P : Program) (w : World) : CXT := fun outer H s E e s' =>
  ∃ (x C : Addr) (H' : Hp), e = .ref x ∧ s'.os = s.os ∧ AllBare s'.gens ∧ Un (frs outer) [] H H' s.heap s'.heap ∧ HOk P w H' s'.heap ∧ Fly s.heap H' x C s'.heap ∧ E (.ref C) none H'
section
variable {X : Cx} {pins : List (Addr × Obj)} {σ : St} {H : Hp} {s : Shared} {x C : Addr} {a0 : Value} {h' : Heap}
/-- what holds of a context that is a def's body -/
structure DefCx (X : Cx) : Prop where
  ex : X.ex = []
  stk : X.stack = X.env :: X.outer
  fr : X.env.frame = some X.env.locals
theorem DefCx.frs (d : DefCx X) : frs X.stack = X.env.locals :: frs X.outer := by
  rw [d.stk]
  show List.filterMap _ (X.env :: X.outer) = _
  rw [List.filterMap_cons, d.fr]
  rfl
/-- behind the entry of this frame: what a caller wants -/
theorem left_cx (d : DefCx X) (I : Inv X pins σ H s) (hid : List Addr) (hh : ∀ b ∈ hid, H b = none ∧ X.s₀.heap.get? b = none) (hx : H x = none ∧ X.s₀.heap.get? x = none)
    (fl : Heap.FlyingW (PySem.W.hideAll s.heap (hid ++ L2.frs X.stack)) X.outer x (.ref C) a0 h') (sl : s.heap.UpToSlots h') :
    Un (L2.frs X.outer) [] X.H₀ H X.s₀.heap h' ∧ HOk X.prog X.w H h' ∧ Fly X.s₀.heap H x C h' := by
  have nf : ∀ b ∈ L2.frs X.stack, ∃ o, s.heap.get? b = some o ∧ ∀ vs, o.data ≠ .fields vs := fun b hb => (I.stack.mem hb).2
  have kp : ∀ b o, s.heap.get? b = some o → b ∉ hid → b ∉ L2.frs X.stack → h'.get? b = some o := fun b o e n1 n2 =>
    fl.1 b o (PySem.W.hideAll_get _ e fun z => (List.mem_append.mp z).elim n1 n2)
  have out : ∀ b ∈ L2.frs X.outer, b ∈ L2.frs X.stack := fun b hb => by rw [d.frs]; exact List.mem_cons_of_mem _ hb
  have old : ∀ b o, X.s₀.heap.get? b = some o → b ∉ hid ∧ b ≠ X.env.locals := fun b o e =>
    ⟨fun z => (by rw [(hh b z).2] at e; cases e), Nat.ne_of_lt (Nat.lt_of_lt_of_le (Heap.lt_size e) I.ok.above)⟩
  have nex : ∀ b : Addr, b ∉ X.ex := fun b z => by rw [d.ex] at z; cases z
  refine ⟨⟨fun b o e n hb _ => ?_, fun b o e n hb _ => ?_, fun b o e n _ => I.base.free b o e n (nex b), fun b o e _ => ?_, I.base.tups, I.base.frzs, I.base.tbls⟩, fun b u e => ?_, ?_⟩
  · refine kp b o (I.base.keep b o e n hb (nex b)) (old b o e).1 ?_
    rw [d.frs]
    exact fun z => (List.mem_cons.mp z).elim (old b o e).2 hb
  · obtain ⟨s1, e1⟩ := I.base.slot b o e n hb (nex b)
    obtain ⟨o2, e2, f2⟩ := nf b (out b hb)
    rw [e1] at e2
    cases e2
    obtain ⟨s2, e3⟩ := sl b _ e1 f2
    exact ⟨s2, e3⟩
  · obtain ⟨o1, e1⟩ := I.base.there b o e (nex b)
    by_cases hb : b ∈ L2.frs X.stack
    · obtain ⟨o2, e2, f2⟩ := nf b hb
      obtain ⟨s2, e3⟩ := sl b _ e2 f2
      exact ⟨_, e3⟩
    · exact ⟨o1, kp b o1 e1 (old b o e).1 hb⟩
  · refine (I.hok b u e).stay (fun c v hc q => kp c v q ?_ ?_) (fun _ q => q) fun _ _ q => q
    · intro z
      have hn := (hh c z).1
      rcases hc with r | r
      · rw [r, e] at hn; cases hn
      · rw [r] at hn; cases hn
    · intro z
      have hn := I.stkFree c z
      rcases hc with r | r
      · rw [r, e] at hn; cases hn
      · rw [r] at hn; cases hn
  · obtain ⟨_, _, _, oe, vs, T, oT, ts, e1, ⟨e2, e3⟩, e4, e5, e6, e7, e8, e9, e10⟩ := fl
    have cT : T ∈ hid ∨ s.heap.get? T = none := by
      by_cases z1 : T ∈ hid
      · exact .inl z1
      · right
        by_cases z2 : T ∈ L2.frs X.stack
        · exfalso
          obtain ⟨o2, q2, f2⟩ := nf T z2
          obtain ⟨s2, q3⟩ := sl T _ q2 f2
          rw [e8] at q3
          cases q3
          exact f2 ts e9
        · cases q : s.heap.get? T with
          | none => rfl
          | some o =>
            have := PySem.W.hideAll_get (hid ++ L2.frs X.stack) q fun z => (List.mem_append.mp z).elim z1 z2
            rw [e6] at this
            cases this
    have hT : H T = none ∧ X.s₀.heap.get? T = none := by
      rcases cT with z | z
      · exact hh T z
      · constructor
        · cases q : H T with
          | none => rfl
          | some o =>
            obtain ⟨ob, q2⟩ := (I.hok T o q).there
            rw [z] at q2; cases q2
        · cases q : X.s₀.heap.get? T with
          | none => rfl
          | some o =>
            obtain ⟨o1, q2⟩ := I.base.there T o q (nex T)
            rw [z] at q2; cases q2
    exact ⟨hx.1, hx.2, T, e7, hT.1, hT.2, oe, vs, oT, ts, a0, e1, e2, e3, e4, e5, e8, e9, e10⟩
/-- a flying one over the heap without it and without the frames -/
theorem fly_over (d : DefCx X) (I : Inv X pins σ H s) {h0 : Heap} (f : Fly h0 H x C s.heap) (k0 : ∀ b, h0.get? b = none → X.s₀.heap.get? b = none) :
    ∃ (hid : List Addr) (a0 : Value), (∀ b ∈ hid, H b = none ∧ X.s₀.heap.get? b = none) ∧ (H x = none ∧ X.s₀.heap.get? x = none) ∧ Heap.FlyingW (PySem.W.hideAll s.heap (hid ++ L2.frs X.stack)) X.stack x (.ref C) a0 s.heap := by
  obtain ⟨f1, f2, T, f3, f4, f5, oe, vs, oT, ts, a0, e1, e2, e3, e4, e5, e6, e7, e8⟩ := f
  refine ⟨[x, T], a0, fun b hb => ?_, ⟨f1, k0 _ f2⟩, fun b o q => PySem.W.of_hideAll _ q, PySem.W.hideAll_none _ (by simp), ?_, oe, vs, T, oT, ts, e1, ⟨e2, e3⟩, e4, e5, PySem.W.hideAll_none _ (by simp), f3, e6, e7, e8⟩
  · rcases List.mem_cons.mp hb with z | z
    · subst z; exact ⟨f1, k0 _ f2⟩
    · have z' : b = T := by simpa using z
      subst z'; exact ⟨f4, k0 _ f5⟩
  · exact PySem.W.funFrames_hide I.stack fun env he a ha => List.mem_append_right _ (List.mem_filterMap.mpr ⟨env, he, ha⟩)
/-- it leaves this frame -/
theorem leave_fly {M : Model} {E' : Value → Shared → Prop} {Ex : XK} {h0 : Heap} (d : DefCx X) (I : Inv X pins σ H s) (f : Fly h0 H x C s.heap) (k0 : ∀ b, h0.get? b = none → X.s₀.heap.get? b = none) (q : Ex (.ref C) none H) :
    wpAny M X.A (leaving X.env (.ref x)) (fun _ s' => CXE X.prog X.w X.outer X.H₀ X.s₀ Ex (.ref x) s') E' s := by
  obtain ⟨hid, a0, hh, hx, fl⟩ := fly_over d I f k0
  have hfr := I.ok.frames
  rw [d.stk] at hfr
  rw [show L2.frs X.stack = L2.frs (X.env :: X.outer) by rw [d.stk], d.stk] at fl
  refine wpAny_leaves_onW hfr d.fr fl fun h' fl' sl => ?_
  rw [← d.stk] at fl'
  obtain ⟨u, ok, fy⟩ := left_cx d I hid hh hx fl' sl
  exact ⟨x, C, H, rfl, I.os, I.bare, u, ok, fy, q⟩
/-- one just made leaves this frame -/
theorem leave_made {M : Model} {E' : Value → Shared → Prop} {Ex : XK} {vs : List Value} (d : DefCx X) (I : Inv X pins σ H s) (hm : Heap.MadeExcOf s.heap h' x (.ref C) vs) (q : Ex (.ref C) none H) :
    wpAny M X.A (leaving X.env (.ref x)) (fun _ s' => CXE X.prog X.w X.outer X.H₀ X.s₀ Ex (.ref x) s') E' { s with heap := h' } := by
  have hfr := I.ok.frames
  rw [d.stk] at hfr
  have hx : H x = none ∧ X.s₀.heap.get? x = none := by
    constructor
    · cases e : H x with
      | none => rfl
      | some o =>
        obtain ⟨ob, q2⟩ := (I.hok x o e).there
        rw [hm.new] at q2; cases q2
    · cases e : X.s₀.heap.get? x with
      | none => rfl
      | some o =>
        obtain ⟨o1, q2⟩ := I.base.there x o e (by rw [d.ex]; simp)
        rw [hm.new] at q2; cases q2
  have fs : s.heap.FunFrames (PySem.W.hideAll s.heap ([] ++ L2.frs X.stack)) (X.env :: X.outer) := by
    rw [← d.stk]
    exact PySem.W.funFrames_hide I.stack fun env he a ha => List.mem_append_right _ (List.mem_filterMap.mpr ⟨env, he, ha⟩)
  refine wpAny_leaves_madeW (s := { s with heap := h' }) (base := PySem.W.hideAll s.heap ([] ++ L2.frs X.stack)) (h := s.heap) hfr d.fr (fun b o e => PySem.W.of_hideAll _ e) fs hm fun h2 t fl _ _ sl => ?_
  obtain ⟨u, ok, fy⟩ := left_cx d I [] (fun b hb => nomatch hb) hx fl ((Heap.UpToSlots.of_keeps hm.keeps).trans sl)
  exact ⟨x, C, H, rfl, I.os, I.bare, u, ok, fy, q⟩
end

/-! ## defs that may raise -/
section
variable {P : Program} {w : World} {K : PySem.W.Frag} {mg : Str → Option Value} {base : Heap} {N : List Str} {qual : Str} {scope : Scope} {f : Addr} {cd : Value} {A : Around} {outer : List Env} {s : Shared} {H : Hp} {E : XK}
theorem defCx : DefCx (cxOf (CXE P w) P w K mg base N qual scope f cd A outer s H E) := ⟨rfl, rfl, rfl⟩
theorem throws {C : Addr} : Throws (cxOf (CXE P w) P w K mg base N qual scope f cd A outer s H E) C E := fun pins σ H1 s1 h' a vs I hm q =>
  leave_made (X := cxOf (CXE P w) P w K mg base N qual scope f cd A outer s H E) (Ex := E) defCx I hm q
/-- an exception of a callee goes on -/
theorem passesE : Passes (CXE P w) (cxOf (CXE P w) P w K mg base N qual scope f cd A outer s H E) E := by
  intro pins σ H1 s1 e s2 I h
  obtain ⟨x, C, H2, rfl, os, bare, u, ok, fy, q⟩ := h
  have I2 : Inv (cxOf (CXE P w) P w K mg base N qual scope f cd A outer s H E) pins σ H2 s2 := I.call' (ch := []) os u ok bare (fun b z => nomatch z)
  exact leave_fly (X := cxOf (CXE P w) P w K mg base N qual scope f cd A outer s H E) (Ex := E) defCx I2 fy (fun b e => by
    cases q2 : s.heap.get? b with
    | none => exact q2
    | some o =>
      obtain ⟨o1, q3⟩ := I.base.there b o q2 (by show b ∉ []; simp)
      rw [e] at q3; cases q3) q
theorem passesOwnE : PassesOwn (model P w) (cxOf (CXE P w) P w K mg base N qual scope f cd A outer s H E).A (cxOf (CXE P w) P w K mg base N qual scope f cd A outer s H E).env (cxOf (CXE P w) P w K mg base N qual scope f cd A outer s H E).xe := PassesOwn.leaving
end
end L2

set_option Elab.async false
set_option linter.all false
set_option maxRecDepth 100000
namespace L2
open PySem PySem.Spec PyProof.Rows

/-! ## f-texts: what comes is some text -/
section
variable {X : Cx} {e e1 e2 : Expr} {es : List Expr} {te : TE} {pos : Pos}
abbrev TJ := St → Hp → (Hp → Prop) → Prop
def PJ (X : Cx) (es : List Expr) (t : TJ) : Prop := ∀ (pins : List (Addr × Obj)) (s : Shared) (σ : St) (H : Hp) (acc : Str) (Q : Hp → Prop), Inv X pins σ H s → t σ H Q → acc.length + 100000 * es.length ≤ sizeLine →
  wpAny (model X.prog X.w) X.A (joinParts acc (evalEach es X.env)) (fun v s' => ∃ z u H', v = .str z u ∧ Inv X pins σ H' s' ∧ Q H') X.xe s
theorem pj_nil : PJ X [] (fun _ H Q => Q H) := fun pins s σ H acc Q I h hz => joinParts_nil (⟨acc, _, H, rfl, I.tok _, h⟩) (by simpa using hz)
def jCons (te : TE) (tr : TJ) : TJ := fun σ H Q => te σ H fun v H1 => ∃ y, v = .str y ∧ y.length ≤ 100000 ∧ tr σ H1 Q
theorem pj_cons {tr : TJ} (he : PE X e te) (hr : PJ X es tr) (hs : evalEach (e :: es) X.env = eval e X.env :: evalEach es X.env := by rfl) : PJ X (e :: es) (jCons te tr) := by
  intro pins s σ H acc Q I h hz
  rw [hs]
  rw [List.length_cons] at hz
  refine joinParts_cons (thn (he pins s σ H _ I h) fun v s1 ⟨x, H1, I1, r1, y, ey, hy, q⟩ => ?_)
  subst ey
  obtain ⟨t, rfl⟩ := r1
  have hl : (acc ++ y).length = acc.length + y.length := strLen_append acc y
  exact ⟨by rw [hl]; omega, hr pins s1 σ H1 (acc ++ y) Q I1 q (by rw [hl]; omega)⟩
def tFs (t : TJ) : TE := fun σ H Q => t σ H fun H' => ∀ z, Q (.str z) H'
theorem pe_fstr {t : TJ} (h : PJ X (e1 :: e2 :: es) t) (hn : 100000 * (e1 :: e2 :: es).length ≤ sizeLine := by decide) : PE X (.JoinedStr (e1 :: e2 :: es) pos) (tFs t) := by
  intro pins s σ H Q I hw
  refine JoinedStr_many (thn (h pins s σ H Str.empty _ I hw (by rw [show Str.empty.length = 0 from rfl, Nat.zero_add]; exact hn)) fun v s1 ⟨z, u, H1, ev, I1, q⟩ => ?_)
  subst ev
  exact ⟨.str z, H1, I1, ⟨_, rfl⟩, q z⟩
/-- what may stand in the braces -/
def Shown (v : V) : Prop := (∃ i, v = .int i ∧ i.natAbs.log2 < 1920) ∨ ∃ z, v = .str z ∧ z.length ≤ 100000
def tFv (te : TE) : TE := fun σ H Q => te σ H fun v H1 => Shown v ∧ ∀ z : Str, z.length ≤ 100000 → Q (.str z) H1
theorem pe_fval (he : PE X e te) : PE X (.FormattedValue e (-1) none pos) (tFv te) := by
  intro pins s σ H Q I h
  refine FormattedValue_plain (thn (he pins s σ H _ I h) fun v s1 ⟨x, H1, I1, r1, sh, q⟩ => ?_)
  rcases sh with ⟨i, rfl, hi⟩ | ⟨z, rfl, hz⟩
  · obtain ⟨t, rfl⟩ := r1
    exact formatField_int_small hi ⟨.str _, H1, I1.tok _, ⟨_, rfl⟩, q _ (Nat.le_trans (int_text_len_1921 hi) (by decide))⟩
  · obtain ⟨t, rfl⟩ := r1
    exact formatField_str (fun t' tk => ⟨.str z, H1, I1.tok _, ⟨_, rfl⟩, q z hz⟩) (Nat.le_trans hz (by decide))
end

/-! ## a def that may raise -/
section
variable {P : Program} {w : World} {K : PySem.W.Frag} {mg : Str → Option Value} {base : Heap}
theorem FunD.okE {x qual : Str} {st : Stmt} {dV : Value} {f : Addr} {fd : FuncData} {N ps : List Str} {k : Nat} {sp : Sp} (F : FunD K x qual st dV f fd) (S : FnScope N ps (defScope st)) (len : ∀ vs H Q E, sp vs H Q E → vs.length = ps.length)
    (hbody : ∀ (cdv : Value) (A : Around) (outer : List Env) (s : Shared) (H : Hp) (vs : List V) (Q : VK) (E : XK), Room k (A.deeper (envOfC qual (defScope st) s.heap.objs.size f cdv)) → sp vs H Q E →
      ∃ t, PSs (cxOf (CXE P w) P w K mg base N qual (defScope st) f cdv A outer s H E) (defBody st) t ∧ t { nx := fun _ H' => Q .non H', rt := Q } (start N vs) H) : FnOk P w K mg base (CXE P w) (k + 1) f fd ps sp := by
  obtain ⟨oc, od, kV, doc, pm, an, cdv, ct, osl, rfl, lk, hcd⟩ := F.ex
  exact fn_of lk hcd S len (hbody cdv)
end
end L2

set_option Elab.async false
set_option linter.all false
set_option maxRecDepth 100000
namespace L2
open PySem PySem.Spec PyProof.Rows

/-! ## try .. except C as n -/
section
variable {P : Program} {w : World} {l l' : List Env} {H H2 : Hp} {h0 h1 h' base : Heap} {x C : Addr} {a0 : Value}
theorem un_fly (u : Un (frs l) [] H H2 h0 h1) (ok : HOk P w H2 h1) (fn : h1.FunFrames base l) (ff : ∀ b ∈ frs l, H2 b = none) (hid : List Addr) (hh : ∀ b ∈ hid, H2 b = none ∧ h0.get? b = none) (hx : H2 x = none ∧ h0.get? x = none)
    (fl : Heap.FlyingW (PySem.W.hideAll h1 (hid ++ frs l)) l' x (.ref C) a0 h') (sl : h1.UpToSlots h') : Un (frs l) [] H H2 h0 h' ∧ HOk P w H2 h' ∧ Fly h0 H2 x C h' := by
  have nf : ∀ b ∈ frs l, ∃ o, h1.get? b = some o ∧ ∀ vs, o.data ≠ .fields vs := fun b hb => (fn.mem hb).2
  have kp : ∀ b o, h1.get? b = some o → b ∉ hid → b ∉ frs l → h'.get? b = some o := fun b o e n1 n2 => fl.1 b o (PySem.W.hideAll_get _ e fun z => (List.mem_append.mp z).elim n1 n2)
  have old : ∀ b o, h0.get? b = some o → b ∉ hid := fun b o e z => by rw [(hh b z).2] at e; cases e
  refine ⟨⟨fun b o e n hb hx => kp b o (u.keep b o e n hb hx) (old b o e) hb, fun b o e n hb hx => ?_, u.free, fun b o e hx => ?_, u.tups, u.frzs, u.tbls⟩, fun b v e => ?_, ?_⟩
  · obtain ⟨s1, e1⟩ := u.slot b o e n hb hx
    obtain ⟨o2, e2, f2⟩ := nf b hb
    rw [e1] at e2
    cases e2
    obtain ⟨s2, e3⟩ := sl b _ e1 f2
    exact ⟨s2, e3⟩
  · obtain ⟨o1, e1⟩ := u.there b o e hx
    by_cases hb : b ∈ frs l
    · obtain ⟨o2, e2, f2⟩ := nf b hb
      obtain ⟨s2, e3⟩ := sl b _ e2 f2
      exact ⟨_, e3⟩
    · exact ⟨o1, kp b o1 e1 (old b o e) hb⟩
  · refine (ok b v e).stay (fun c y hc q => kp c y q ?_ ?_) (fun _ q => q) fun _ _ q => q
    · intro z
      have hn := (hh c z).1
      rcases hc with r | r
      · rw [r, e] at hn; cases hn
      · rw [r] at hn; cases hn
    · intro z
      have hn := ff c z
      rcases hc with r | r
      · rw [r, e] at hn; cases hn
      · rw [r] at hn; cases hn
  · obtain ⟨_, _, _, oe, vs, T, oT, ts, e1, ⟨e2, e3⟩, e4, e5, e6, e7, e8, e9, e10⟩ := fl
    have cT : T ∈ hid ∨ h1.get? T = none := by
      by_cases z1 : T ∈ hid
      · exact .inl z1
      · right
        by_cases z2 : T ∈ frs l
        · exfalso
          obtain ⟨o2, q2, f2⟩ := nf T z2
          obtain ⟨s2, q3⟩ := sl T _ q2 f2
          rw [e8] at q3
          cases q3
          exact f2 ts e9
        · cases q : h1.get? T with
          | none => rfl
          | some o =>
            have := PySem.W.hideAll_get (hid ++ frs l) q fun z => (List.mem_append.mp z).elim z1 z2
            rw [e6] at this
            cases this
    have hT : H2 T = none ∧ h0.get? T = none := by
      rcases cT with z | z
      · exact hh T z
      · constructor
        · cases q : H2 T with
          | none => rfl
          | some o =>
            obtain ⟨ob, q2⟩ := (ok T o q).there
            rw [z] at q2; cases q2
        · cases q : h0.get? T with
          | none => rfl
          | some o =>
            obtain ⟨o1, q2⟩ := u.there T o q (by simp)
            rw [z] at q2; cases q2
    exact ⟨hx.1, hx.2, T, e7, hT.1, hT.2, oe, vs, oT, ts, a0, e1, e2, e3, e4, e5, e8, e9, e10⟩
theorem fly_hid (fn : h1.FunFrames base l) (f : Fly h0 H2 x C h1) :
    ∃ (hid : List Addr) (a0 : Value), (∀ b ∈ hid, H2 b = none ∧ h0.get? b = none) ∧ (H2 x = none ∧ h0.get? x = none) ∧ Heap.FlyingW (PySem.W.hideAll h1 (hid ++ frs l)) l x (.ref C) a0 h1 := by
  obtain ⟨f1, f2, T, f3, f4, f5, oe, vs, oT, ts, a0, e1, e2, e3, e4, e5, e6, e7, e8⟩ := f
  refine ⟨[x, T], a0, fun b hb => ?_, ⟨f1, f2⟩, fun b o q => PySem.W.of_hideAll _ q, PySem.W.hideAll_none _ (by simp), ?_, oe, vs, T, oT, ts, e1, ⟨e2, e3⟩, e4, e5, PySem.W.hideAll_none _ (by simp), f3, e6, e7, e8⟩
  · rcases List.mem_cons.mp hb with z | z
    · subst z; exact ⟨f1, f2⟩
    · have z' : b = T := by simpa using z
      subst z'; exact ⟨f4, f5⟩
  · exact PySem.W.funFrames_hide fn fun env he a ha => List.mem_append_right _ (List.mem_filterMap.mpr ⟨env, he, ha⟩)
end
section
variable {X : Cx} {pins : List (Addr × Obj)} {σ : St} {H : Hp} {s : Shared}
/-- in the suite of an except -/
def Cx.mark (X : Cx) (e : Value) : Cx := { X with A := X.A.mark (some e), calm := false, xe := fun _ _ => False }
theorem Inv.mark (I : Inv X pins σ H s) (e : Value) : Inv (X.mark e) pins σ H s where
  ok := ⟨I.ok.mod, I.ok.kind, I.ok.glob, I.ok.blt, I.ok.above, I.ok.inj, I.ok.has, I.ok.cab, fun z => absurd z Bool.false_ne_true, I.ok.frames, I.ok.stk, I.ok.exf, I.ok.bs, I.ok.bsz, I.ok.noex, I.ok.exfs, I.ok.funs, I.ok.frf⟩
  os := I.os
  bare := I.bare
  base := I.base
  loc := I.loc
  cell := I.cell
  free := I.free
  freeC := I.freeC
  pin := I.pin
  hok := I.hok
  len := I.len
theorem Inv.unmark {e : Value} (I : Inv (X.mark e) pins σ H s) (ok : X.Ok) : Inv X pins σ H s := ⟨ok, I.os, I.bare, I.base, I.loc, I.cell, I.free, I.freeC, I.pin, I.hok, I.len⟩
/-- an untracked new record is tracked -/
theorem Inv.track {x : Addr} {o : HO} (I : Inv X pins σ H s) (hx : H x = none) (h0 : X.s₀.heap.get? x = none) (h1 : x ≠ X.env.locals) (h2 : ∀ y c, X.env.cells.lookup y = some c → c ≠ x) (h3 : ∀ p ∈ X.pn ++ pins, p.1 ≠ x)
    (new : ObjOk X.prog X.w (upd H x o) s.heap x o) : Inv X pins σ (upd H x o) s where
  ok := I.ok
  os := I.os
  bare := I.bare
  base := ⟨I.base.keep, I.base.slot, fun b u e n hb => by
      rw [upd_ne (fun z => by rw [z, h0] at e; cases e)]
      exact I.base.free b u e n hb, I.base.there, fun b xs q => by rw [upd_ne (ne_of_none (I.base.tups b xs q) hx)]; exact I.base.tups b xs q,
    fun b u xs q => by rw [upd_ne (ne_of_none (I.base.frzs b u xs q) hx)]; exact I.base.frzs b u xs q, fun b ps q => by
      obtain ⟨m, e⟩ := I.base.tbls b ps q
      exact ⟨m, by rw [upd_ne (ne_of_none e hx)]; exact e⟩⟩
  loc := I.loc
  cell := I.cell
  free := by rw [upd_ne (Ne.symm h1)]; exact I.free
  freeC := fun y c e => by rw [upd_ne (h2 y c e)]; exact I.freeC y c e
  pin := fun p hp => by
    obtain ⟨e, n, r⟩ := I.pin p hp
    exact ⟨e, by rw [upd_ne (h3 p hp)]; exact n, r⟩
  hok := fun b u e => by
    by_cases hb : b = x
    · subst hb; rw [upd_same] at e; cases e; exact new
    · rw [upd_ne hb] at e
      exact (I.hok b u e).stay (fun c v _ q => q) (fun c q => by rw [upd_ne (ne_of_none q hx)]; exact q) fun c xs q => by rw [upd_ne (ne_of_none q hx)]; exact q
  len := I.len
/-- a name is taken away -/
theorem Inv.unname {i : Nat} {n : Str} {m : Str → Option Value} {v : Option Value} {h' : Heap} {t' : Nat} (I : Inv X pins σ H s) (hN : X.N.Nodup) (hi : X.N[i]? = some n) (hm : s.heap.Ns X.env.locals m)
    (hn : h'.Ns X.env.locals (fun x => if x = n then v else m x)) (hs : Heap.SameBut X.env.locals s.heap h') : Inv X pins (σ.set i none) H { s with heap := h', toks := t' } := by
  have kp : ∀ b o, b ≠ X.env.locals → s.heap.get? b = some o → h'.get? b = some o := fun b o hb e => (hs.2 b hb).trans e
  have neL : ∀ b o, X.s₀.heap.get? b = some o → b ≠ X.env.locals := fun b o e => Nat.ne_of_lt (Nat.lt_of_lt_of_le (Heap.lt_size e) I.ok.above)
  obtain ⟨m', hn', hl⟩ := id I.loc
  have em : m' = m := by
    obtain ⟨o, es, ep, ho, hd, hq, hf⟩ := hm
    obtain ⟨o', es', ep', ho', hd', hq', hf'⟩ := hn'
    rw [ho] at ho'; cases ho'
    rw [hd] at hd'; cases hd'
    funext y
    rw [← hf, ← hf']
  subst em
  refine ⟨I.ok, I.os, I.bare, ⟨fun b o e n hb hx => kp b o (neL b o e) (I.base.keep b o e n hb hx), fun b o e n hb hx => ?_, I.base.free, fun b o e hx => ?_, I.base.tups, I.base.frzs, I.base.tbls⟩, ⟨_, hn, fun j y u e1 e2 e3 => ?_⟩, fun y c e => ?_, I.free, I.freeC, fun p hp => ?_, fun b u e => ?_, by simpa using I.len⟩
  · obtain ⟨sl, e1⟩ := I.base.slot b o e n hb hx
    exact ⟨sl, kp b _ (neL b o e) e1⟩
  · obtain ⟨o', e1⟩ := I.base.there b o e hx
    exact ⟨o', kp b o' (neL b o e) e1⟩
  · by_cases hj : j = i
    · subst hj
      have hlt : j < σ.length := by rw [I.len]; exact (List.getElem?_eq_some_iff.mp hi).1
      rw [List.getElem?_set_self hlt] at e2
      cases e2
    · rw [List.getElem?_set_ne (Ne.symm hj)] at e2
      obtain ⟨u', r', q⟩ := hl j y u e1 e2 e3
      refine ⟨u', r', ?_⟩
      rcases q with ⟨k, e⟩ | ⟨k, c, e, z⟩
      · have ny : y ≠ n := fun z => hj (nodup_ix hN e1 (z ▸ hi))
        exact .inl ⟨k, by simp [ny, e]⟩
      · exact .inr ⟨k, c, e, z.sameBut hs (I.cne y c e)⟩
  · obtain ⟨w', z⟩ := I.cell y c e
    exact ⟨w', z.sameBut hs (I.cne y c e)⟩
  · obtain ⟨e, n', ne, nf, d⟩ := I.pin p hp
    exact ⟨kp _ _ ne e, n', ne, nf, d⟩
  · refine (I.hok b u e).stay (fun c y hc q => kp c y ?_ q) (fun _ q => q) fun _ _ q => q
    rintro rfl
    have hf := I.free
    rcases hc with r | r
    · rw [r, e] at hf; cases hf
    · rw [r] at hf; cases hf
end
end L2

set_option Elab.async false
set_option linter.all false
set_option maxRecDepth 100000
namespace L2
open PySem PySem.Spec PyProof.Rows
/-! ## the body of a try: the names stay till an exception -/
def PassesAt (CX : CXT) (X : Cx) (pins : List (Addr × Obj)) (σ : St) (E : XK) : Prop := ∀ (H : Hp) (s : Shared) (e : Value) (s' : Shared), Inv X pins σ H s → CX X.stack H s E e s' → X.xe e s'
def PSsAt (X : Cx) (pins : List (Addr × Obj)) (σ : St) (sts : List Stmt) (t : TS) : Prop := ∀ (s : Shared) (H : Hp) (D : Ends), Inv X pins σ H s → t D σ H → wpAny (model X.prog X.w) X.A (execs sts X.env) (SP X pins D) X.xe s
def PSAt (X : Cx) (pins : List (Addr × Obj)) (σ : St) (st : Stmt) (t : TS) : Prop := ∀ (s : Shared) (H : Hp) (D : Ends), Inv X pins σ H s → t D σ H → wpAny (model X.prog X.w) X.A (exec st X.env) (SP X pins D) X.xe s
def PEAt (X : Cx) (pins : List (Addr × Obj)) (σ : St) (e : Expr) (t : TE) : Prop := ∀ (s : Shared) (H : Hp) (Q : VK), Inv X pins σ H s → t σ H Q → wpAny (model X.prog X.w) X.A (eval e X.env) (EP X pins σ Q) X.xe s
section
variable {X : Cx} {pins : List (Addr × Obj)} {σ : St} {CX : CXT} {k : Nat} {ps : List Str} {sp : Sp} {dvs : List V} {x : Str} {p pos : Pos} {e : Expr} {es : List Expr} {t : TA} {E : XK} {te : TE} {st : Stmt} {a b : List Stmt} {u v : TS}
theorem peAt_fn {j : Nat} (F : Fn X.prog X.w X.K X.mg X.base CX x ps dvs k sp) (hr : Room j X.A) (hj : k ≤ j) (hg : Gl X x) (hx : PassesAt CX X pins σ E) (ha : PA X (e :: es) t) (hdb : (x == ("__debug__" : Str)) = false := by decide)
    (he : starEach (e :: es) X.env = (false, eval e X.env) :: starEach es X.env := by rfl) (hpl : (backTo pos (starEach es X.env)).any (·.1) = false := by rfl) : PEAt X pins σ (.Call (.Name x p) (e :: es) [] pos) (tCall sp dvs E t) := by
  obtain ⟨f, fd, ds, F, hb, hd, hk, hm⟩ := F
  intro s H Q I h
  refine wpAny_Call_Name_kw (ld_glob I hg hm ?_ hdb)
  refine PySem.W.callWith_K (h₀ := X.base) I.ok.mod.kin hk (thn (ha pos pins s σ H _ I h) fun us s1 h1 => ?_) he hpl
  obtain ⟨vs, H1, I1, r, q⟩ := h1
  refine ⟨I1.kIn, ?_⟩
  have r2 : Vals (vs ++ dvs) (us ++ ds) := r.append hd
  have hl : (us ++ ds).length = ps.length := (r2.length).symm.trans (F.len _ _ _ _ q)
  refine wpAny_call (codeAny_mono (F.run X.A X.stack s1 H1 ⟨us, []⟩ (us ++ ds) (vs ++ dvs) Q E (hr.mono hj) I1.env0 (hb s1 us I1.kIn hl) r2 q) ?_)
  rintro (er | fl) s' hq
  · exact hx H1 s1 er s' I1 hq
  · cases fl <;> first | exact I1.after hq | exact False.elim hq
theorem psAt_expr (he : PEAt X pins σ e te) (hs : swapsWith e none pos.line X.env = pure false := by rfl) : PSAt X pins σ (.Expr e pos) (tDrop te) := by
  intro s H D I h
  refine wpAny_Expr_any (thn (he s H _ I h) ?_) I.quiet hs
  rintro v s1 ⟨y, H1, I1, r1, q1⟩
  exact ⟨σ, H1, I1, q1⟩
theorem psAt_if {c : Expr} {tc : TT} (hc : PT X c tc) (ha : PSsAt X pins σ a u) (hb : PSsAt X pins σ b v) : PSAt X pins σ (.If c a b pos) (tIfS tc u v) := by
  intro s H D I h
  refine wpAny_If (thn (hc pins s σ H _ I h) ?_)
  rintro d s1 ⟨H1, I1, q1⟩
  cases d with
  | true => exact ha s1 H1 D I1 q1
  | false => exact hb s1 H1 D I1 q1
theorem pssAt_one (h : PSAt X pins σ st u) : PSsAt X pins σ [st] u := by
  intro s H D I hw
  refine wpAny_execs_cons (thn (h s H D I hw) ?_)
  intro f s1 q
  cases f with
  | next => exact wpAny_execs_nil q
  | brk => exact q
  | cont => exact q
  | ret w => exact q

/-! ## the statement -/
variable {n : Str} {np hpos : Pos} {b₀ : Stmt} {suite body : List Stmt} {cls : Value} {i : Nat} {tb : XK → TS} {ts : TS}
def tTry (K : PySem.W.Frag) (i : Nat) (cls : Value) (tb : XK → TS) (ts : TS) : TS := fun D σ H =>
  tb (fun c _ H2 => ∃ C, c = .ref C ∧ PySem.W.exmOne K (.ref C) cls = some true ∧ ∀ x, H2 x = none → ts { nx := fun σ' H' => D.nx (σ'.set i none) H', rt := fun _ _ => False } (σ.set i (some (.ref x))) (upd H2 x (excO x C))) D σ H
theorem ps_try (d : DefCx X) (hN : X.N.Nodup) (hi : X.N[i]? = some n) (hl : X.env.scope.names.lookup n = some .local) (hg : Gl X x) (hm : X.mg x = some cls) (hfr : X.pn = [])
    (hb : ∀ (W : Value → Shared → Prop) (Ex : XK) (pins : List (Addr × Obj)) (σ : St), PassesAt (CXE X.prog X.w) (X.wish W) pins σ Ex → PSsAt (X.wish W) pins σ body (tb Ex)) (hs : ∀ e, PSs (X.mark e) (b₀ :: suite) ts)
    (hdb : (x == ("__debug__" : Str)) = false := by decide) : PS X (.Try body [.ExceptHandler (some (.Name x np)) (some n) (b₀ :: suite) hpos] [] [] pos) (tTry X.K i cls tb ts) := by
  intro pins s σ H D I h
  refine wpAny_Try_except ?_
  refine wpAny_mono (hb (fun e s1 => wpAny (model X.prog X.w) X.A (noteFrame e X.env) (fun _ s2 => wpAny (model X.prog X.w) X.A (setFlight e none) (fun _ s3 =>
    wpAny (model X.prog X.w) X.A (handleBy e X.env [.ExceptHandler (some (.Name x np)) (some n) (b₀ :: suite) hpos]) (SP X pins D) X.xe s3) X.xe s2) X.xe s1) _ pins σ ?_ s H D (I.wish _) h) (fun f s1 q => ?_) fun _ _ q => q
  · intro H1 s1 e s2 I1' hq
    have I1 := I1'.unwish
    obtain ⟨x1, C, H2, rfl, os, bare, un, ok, fy, C', eC, hx, q⟩ := hq
    cases eC
    have I2 : Inv X pins σ H2 s2 := I1.call' (ch := []) os un ok bare (fun b z => nomatch z)
    obtain ⟨hid, a0, hh, hx1, fl⟩ := fly_hid I2.stack fy
    have hfs := I2.ok.frames
    rw [d.stk] at hfs
    have fl' : Heap.FlyingW (PySem.W.hideAll s2.heap (hid ++ frs X.stack)) (X.env :: X.outer) x1 (.ref C) a0 s2.heap := by rw [← d.stk]; exact fl
    show wpAny _ X.A (noteFrame (.ref x1) X.env) _ _ s2
    refine wpAny_looks_onW hfs d.fr fl' fun h4 held sl4 => ?_
    refine wpAny_landsW held fun h5 fl5 sl5 => ?_
    have sl45 := sl4.trans sl5
    obtain ⟨u5, ok5, fy5⟩ := un_fly un ok I2.stack I2.stkFree hid hh hx1 fl5 sl45
    have I5 : Inv X pins σ H2 { s2 with heap := h5 } := I1.call' (s' := { s2 with heap := h5 }) (ch := []) os u5 ok5 bare (fun b z => nomatch z)
    have at5 : ExcAt x1 C h5 := by
      obtain ⟨_, _, T, _, _, _, oe, vs, oT, ts', a1, e1, e2, _⟩ := fy5
      exact ⟨oe, e1, e2⟩
    refine wpAny_handleBy_cons (codeAny_handlers_test ?_) (by intro z; cases z)
    refine ld_glob (X := X.mark (.ref x1)) (I5.mark (.ref x1)) hg hm ?_ hdb
    refine (PySem.W.exm_one I5.kIn at5.ty hx).here ?_
    refine codeAny_handlers_suite_as ?_
    refine lands_againW fl5 fun h6 fl6 sl6 => ?_
    obtain ⟨u6, ok6, fy6⟩ := un_fly un ok I2.stack I2.stkFree hid hh hx1 fl6 (sl45.trans sl6)
    have I6 : Inv X pins σ H2 { s2 with heap := h6 } := I1.call' (s' := { s2 with heap := h6 }) (ch := []) os u6 ok6 bare (fun b z => nomatch z)
    have at6 : ExcAt x1 C h6 := by
      obtain ⟨_, _, T, _, _, _, oe, vs, oT, ts', a1, e1, e2, _⟩ := fy6
      exact ⟨oe, e1, e2⟩
    have nS : ∀ b o, s1.heap.get? b = some o → b ≠ x1 := fun b o e z => by rw [z, hx1.2] at e; cases e
    have I7 : Inv X pins σ (upd H2 x1 (excO x1 C)) { s2 with heap := h6 } := by
      refine I6.track hx1.1 ?_ ?_ ?_ ?_ (excO_ok at6)
      · cases q2 : X.s₀.heap.get? x1 with
        | none => rfl
        | some o =>
          obtain ⟨o1, q3⟩ := I1.base.there x1 o q2 (by rw [d.ex]; simp)
          rw [hx1.2] at q3; cases q3
      · obtain ⟨m, ⟨o, _, _, ho, _⟩, _⟩ := I1.loc
        exact (nS _ o ho).symm
      · intro y c e
        obtain ⟨v', o, ho, _⟩ := I1.cell y c e
        exact nS c o ho
      · intro p hp
        exact nS _ _ (I1.pin p hp).1
    refine store_ok (X := X.mark (.ref x1)) (I7.mark (.ref x1)) hN hi (.inl hl) (v := .ref x1) rfl (fun s8 I8 => ?_) (.inr hl)
    refine wpAny_mono (hs (.ref x1) pins s8 _ _ { nx := fun σ' H' => D.nx (σ'.set i none) H', rt := fun _ _ => False } I8 (q x1 hx1.1)) (fun f s9 q9 => ?_) fun _ _ z => False.elim z
    cases f with
    | brk => obtain ⟨_, _, _, z⟩ := q9; exact False.elim z
    | cont => obtain ⟨_, _, _, z⟩ := q9; exact False.elim z
    | ret r => obtain ⟨_, _, _, _, _, z⟩ := q9; exact False.elim z
    | next =>
      obtain ⟨σ9, H9, I9, q9⟩ := q9
      have J9 := I9.unmark I.ok
      obtain ⟨m, hm9, _⟩ := id J9.loc
      show wpAny _ X.A (do bindName X.env n .none; unbindBehindTheSuite X.env n hpos) _ _ s9
      refine wpAny_nameGoes_keeps hl hm9 (by rw [I.ok.kind]; rfl) fun h' v' hn' hs' => ?_
      exact ⟨_, H9, J9.unname hN hi hm9 hn' hs', q9⟩
  · cases f with
    | next => exact wpAny_execs_nil q.unwish
    | brk => exact q.unwish
    | cont => exact q.unwish
    | ret r => exact q.unwish
end
end L2

set_option Elab.async false
set_option linter.all false
set_option maxRecDepth 100000
namespace L2
open PySem PySem.Spec PyProof PyProof.Rows
section
variable {X : Cx}
/-! ## text[lo:hi], text * k, xs.insert(i, y) -/
def rSlS : V → Option Int → Option Int → Hp → VK → Prop := fun x lo hi H Q => ∃ z, x = .str z ∧ z.length ≤ sizeLine ∧ ∀ y : Str, y.length ≤ z.length → Q (.str y) H
/-- a short text times a small number: some text -/
def rRepS : R2 := fun x y H Q => ∃ z k, x = .str z ∧ y = .int k ∧ z.length ≤ 16 ∧ 0 ≤ k ∧ k ≤ 1000 ∧ ∀ r : Str, r.length ≤ 16 * k.toNat → Q (.str r) H
def rInsert : V → List V → Hp → VK → Prop := fun x vs H Q => ∃ l xs y, ∃ i : Int, x = .ref l ∧ vs = [.int i, y] ∧ H l = some (.lst xs) ∧ 0 ≤ i ∧ i ≤ xs.length ∧ xs.length < sizeLine ∧ Q .non (upd H l (.lst (xs.take i.toNat ++ y :: xs.drop i.toNat)))
end
theorem boot_ValueError : bootBuiltins "ValueError" = some (.type "ValueError") := by decide +kernel
theorem call_instEK {X : Cx} {K : PySem.W.Frag} (h : X.K = K) : CallR X (.builtin "isinstance") (fun xs H Q => ∃ (x C : Addr) (c : V) (cv : Value) (b : Bool), xs = [.ref x, c] ∧ H x = some (excO x C) ∧ ExcC K C ∧ clsV c = some cv ∧ PySem.W.kitOne K (.ref C) cv = some b ∧ Q (.bl b) H) := h ▸ call_instE
end L2

set_option Elab.async false
set_option linter.all false
set_option maxRecDepth 100000
namespace L2
open PySem PySem.Spec PyProof.Rows
/-- a def that is called while an exception is handled -/
structure FnOkM (P : Program) (w : World) (K : PySem.W.Frag) (mg : Str → Option Value) (base : Heap) (k : Nat) (f : Addr) (fd : FuncData) (ps : List Str) (sp : Sp) : Prop where
  len : ∀ vs H Q E, sp vs H Q E → vs.length = ps.length
  run : ∀ (B : Around) (e : Value) (outer : List Env) (s : Shared) (H : Hp) (args : Args) (us : List Value) (vs : List V) (Q : VK) (E : XK), Room k B → Env0 P w K mg base B outer s H → BindsTo s fd args (ps.zip us) → Vals vs us → sp vs H Q E →
    codeAny (model P w) (B.mark (some e)) (.call (.ref f) args) (CR CX0 outer P w H s Q E) s
def FnM (P : Program) (w : World) (K : PySem.W.Frag) (mg : Str → Option Value) (base : Heap) (x : Str) (ps : List Str) (k : Nat) (sp : Sp) : Prop :=
  ∃ (f : Addr) (fd : FuncData), FnOkM P w K mg base k f fd ps sp ∧ Binds K fd ps [] ∧ PySem.W.keepIn K (.ref f) = true ∧ mg x = some (.ref f)
section
variable {P : Program} {w : World} {K : PySem.W.Frag} {mg : Str → Option Value} {base : Heap}
theorem FunD.okM {x qual : Str} {st : Stmt} {dV : Value} {f : Addr} {fd : FuncData} {N ps : List Str} {k : Nat} {sp : Sp} (F : FunD K x qual st dV f fd) (S : FnScope N ps (defScope st)) (len : ∀ vs H Q E, sp vs H Q E → vs.length = ps.length)
    (hbody : ∀ (cdv : Value) (A : Around) (e : Value) (outer : List Env) (s : Shared) (H : Hp) (vs : List V) (Q : VK) (E : XK), Room k (A.deeper (envOfC qual (defScope st) s.heap.objs.size f cdv)) → sp vs H Q E →
      ∃ t, PSs ((cxOf CX0 P w K mg base N qual (defScope st) f cdv A outer s H E).mark e) (defBody st) t ∧ t { nx := fun _ H' => Q .non H', rt := Q } (start N vs) H) : FnOkM P w K mg base (k + 1) f fd ps sp := by
  obtain ⟨oc, od, kV, doc, pm, an, cdv, ct, osl, rfl, lk, hcd⟩ := F.ex
  refine ⟨len, fun B e outer s H args us vs Q E hr e0 hb r hsp => ?_⟩
  have hl := len _ _ _ _ hsp
  have KX : K.In s.heap := e0.mod.kin.keeps fun b o e => (e0.bs b o e).1
  have lim : s.heap.NoLimit := e0.mod.nolimit.keeps fun b o e => (e0.bs b o e).1
  have hkind : ∀ y ∈ ps.zip us, (defScope st).names.lookup y.1 = some .local ∨ ((defScope st).names.lookup y.1 = some .cell ∧ ((cellsFrom (s.heap.objs.size + 1) (defScope st).names []).lookup y.1).isSome = true) := fun ⟨n, v⟩ hy => by
    rcases S.par n (List.of_mem_zip hy).1 with q | q
    · exact .inl q
    · exact .inr ⟨q, PySem.W.cellsFrom_some _ _ _ (.inl q)⟩
  refine codeAny_call_function (A := B.mark (some e)) hr.depth (KX _ _ lk) rfl S.co S.gen rfl (PySem.W.codeRec_of KX hcd) (hb _ _ _ _ ?_)
  refine wpAny_newFunctionEnv_cells S.kind hkind fun env he s1 x => ?_
  subst he
  refine ⟨lim.keeps x.toInCall.keep, codeAny_func ?_⟩
  obtain ⟨t, ht, hq⟩ := hbody cdv B e outer s H vs Q E (hr.deeper _) hsp
  have I : Inv ((cxOf CX0 P w K mg base N qual (defScope st) f cdv B outer s H E).mark e) [] (start N vs) H s1 := (inv_start S hr.hd e0 hl r x).mark e
  refine wpAny_mono (ht [] s1 (start N vs) H _ I hq) (fun fl s' hs => ?_) fun _ _ hs => False.elim hs
  have fin : ∀ {σ' : St} {H' : Hp} {v : V} {u : Value}, Inv ((cxOf CX0 P w K mg base N qual (defScope st) f cdv B outer s H E).mark e) [] σ' H' s' → RelV v u → Q v H' → CE outer P w H s Q u s' :=
    fun {σ' H' v u} J rv q => ⟨v, H', J.os, J.bare, J.base, J.hok, rv, q⟩
  cases fl with
  | ret u =>
    obtain ⟨v, σ', H', J, rv, q⟩ := hs
    exact fin J rv q
  | next =>
    obtain ⟨σ', H', J, q⟩ := hs
    exact fin (v := V.non) (u := Value.none) J rfl q
  | brk =>
    obtain ⟨_, _, _, q⟩ := hs
    exact False.elim q
  | cont =>
    obtain ⟨_, _, _, q⟩ := hs
    exact False.elim q
end
section
variable {X : Cx} {k : Nat} {ps : List Str} {sp : Sp} {x : Str} {p pos : Pos} {e : Expr} {es : List Expr} {t : TA} {m : Value}
theorem pe_fnM {j : Nat} (F : FnM X.prog X.w X.K X.mg X.base x ps k sp) (hr : Room j X.A) (hj : k ≤ j) (hg : Gl (X.mark m) x) (ha : PA (X.mark m) (e :: es) t) (hdb : (x == ("__debug__" : Str)) = false := by decide)
    (he : starEach (e :: es) X.env = (false, eval e X.env) :: starEach es X.env := by rfl) (hpl : (backTo pos (starEach es X.env)).any (·.1) = false := by rfl) : PE (X.mark m) (.Call (.Name x p) (e :: es) [] pos) (tCall sp [] E0 t) := by
  obtain ⟨f, fd, F, hb, hk, hm⟩ := F
  intro pins s σ H Q I h
  refine wpAny_Call_Name_kw (ld_glob I hg hm ?_ hdb)
  refine PySem.W.callWith_K (h₀ := X.base) I.ok.mod.kin hk (thn (ha pos pins s σ H _ I h) fun us s1 ⟨vs, H1, I1, r, q⟩ => ⟨I1.kIn, ?_⟩) he hpl
  have r2 : Vals (vs ++ []) (us ++ []) := by rw [List.append_nil, List.append_nil]; exact r
  have hl : (us ++ []).length = ps.length := by rw [← r2.length]; exact F.len _ _ _ _ q
  have e0 : Env0 X.prog X.w X.K X.mg X.base X.A X.stack s1 H1 := ⟨I1.ok.frames, I1.ok.mod, I1.bs, Nat.le_trans I1.ok.bsz I1.sz, I1.stack, I1.stkFree, I1.hok, I1.bare⟩
  refine wpAny_call (codeAny_mono (F.run X.A m X.stack s1 H1 ⟨us, []⟩ (us ++ []) (vs ++ []) Q E0 (hr.mono hj) e0 (hb s1 us I1.kIn hl) r2 q) fun r s' hq => ?_)
  cases r with
  | error e => exact absurd hq (by exact fun z => z.elim)
  | ok fl =>
    cases fl with
    | ret u => exact I1.after hq
    | next => exact False.elim hq
    | brk => exact False.elim hq
    | cont => exact False.elim hq
end
end L2

set_option Elab.async false
set_option linter.all false
set_option maxRecDepth 100000
namespace L2
open PySem PySem.Spec PyProof.Rows
section
variable {X : Cx}
def rRemove : V → List V → Hp → VK → Prop := fun x vs H Q => ∃ l, ∃ xs : List Int, ∃ k : Int, x = .ref l ∧ vs = [.int k] ∧ H l = some (.lst (xs.map V.int)) ∧ k ∈ xs ∧ Q .non (upd H l (.lst ((xs.erase k).map V.int)))
def rIndexM (K : PySem.W.Frag) : V → List V → Hp → VK → Prop := fun x vs H Q => ∃ l, ∃ xs : List Int, ∃ k : Int, x = .ref l ∧ vs = [.int k] ∧ H l = some (.lst (xs.map V.int)) ∧ k ∈ xs ∧ Q (.int (xs.idxOf k : Nat)) H
/-- list(range(a)) -/
def tLR (ta : TA) : TE := fun σ H Q => ta σ H fun vs H1 => ∃ j : Int, vs = [.int j] ∧ 0 ≤ j ∧ j ≤ 1000 ∧ ∀ l, H1 l = none → Q (.ref l) (upd H1 l (.lst ((List.range j.toNat).map fun i => V.int (i : Nat))))
end
end L2

set_option linter.all false
namespace Rl
/-! ## arcs as functions, and the machine that joins brackets -/
def tab (n : Nat) (f : Nat → Nat) : List Int := (List.range n).map fun i => (f i : Int)
theorem tab_length (n : Nat) (f : Nat → Nat) : (tab n f).length = n := by simp [tab]
theorem tab_get {n : Nat} {f : Nat → Nat} {i : Nat} (h : i < n) : (tab n f)[i]? = some (f i : Int) := by simp [tab, h]
theorem tab_getD {n : Nat} {f : Nat → Nat} {i : Nat} (h : i < n) : (tab n f).getD i 0 = (f i : Int) := by rw [List.getD_eq_getElem?_getD, tab_get h]; rfl
def put (f : Nat → Nat) (k v : Nat) : Nat → Nat := fun x => if x = k then v else f x
theorem tab_set {n : Nat} {f : Nat → Nat} {k v : Nat} (h : k < n) : (tab n f).set k (v : Int) = tab n (put f k v) := by
  apply List.ext_getElem?
  intro i
  by_cases hi : i < n
  · rw [tab_get hi, List.getElem?_set]
    unfold put
    by_cases e : i = k
    · subst e
      rw [if_pos rfl, if_pos rfl, if_pos (by rw [tab_length]; exact h)]
    · rw [if_neg (Ne.symm e), if_neg e, tab_get hi]
  · rw [List.getElem?_eq_none (by rw [List.length_set, tab_length]; omega), List.getElem?_eq_none (by rw [tab_length]; omega)]
theorem tab_zero (n : Nat) : List.replicate n (0 : Int) = tab n (fun _ => 0) := by
  apply List.ext_getElem?
  intro i
  by_cases hi : i < n
  · rw [tab_get hi]; simp [hi]
  · rw [List.getElem?_eq_none (by simp; omega), List.getElem?_eq_none (by rw [tab_length]; omega)]

structure IsArcs (n : Nat) (f : Nat → Nat) : Prop where
  lt : ∀ i, i < n → f i < n
  ne : ∀ i, i < n → f i ≠ i
  back : ∀ i, i < n → f (f i) = i
  cross : ∀ i j, i < n → j < n → ¬ (i < j ∧ j < f i ∧ f i < f j)

/-- the machine: b the brackets, S the open ones, f the partners so far -/
structure Run (b : Nat → Bool) (k : Nat) (f : Nat → Nat) (S : List Nat) : Prop where
  sorted : S.Pairwise (· < ·)
  lt : ∀ i, i ∈ S → i < k
  pair : ∀ i, i < k → i ∉ S → f i < k ∧ f i ∉ S ∧ f i ≠ i ∧ f (f i) = i
  inopen : ∀ i, i < k → i ∉ S → ∀ w, w ∈ S → ¬ (i < w ∧ w < f i)
  cross : ∀ i j, i < k → j < k → i ∉ S → j ∉ S → ¬ (i < j ∧ j < f i ∧ f i < f j)
  dir : ∀ i, i < k → i ∉ S → (b i = true ↔ i < f i)
  opn : ∀ i, i ∈ S → b i = true
theorem Run.start (b : Nat → Bool) (f : Nat → Nat) : Run b 0 f [] :=
  ⟨List.Pairwise.nil, fun _ h => (nomatch h), fun _ h => absurd h (Nat.not_lt_zero _), fun _ h => absurd h (Nat.not_lt_zero _), fun _ _ h => absurd h (Nat.not_lt_zero _), fun _ h => absurd h (Nat.not_lt_zero _), fun _ h => (nomatch h)⟩
theorem Run.push {b : Nat → Bool} {k : Nat} {f : Nat → Nat} {S : List Nat} (r : Run b k f S) (hb : b k = true) : Run b (k + 1) f (S ++ [k]) := by
  have old : ∀ i, i < k + 1 → i ∉ S ++ [k] → i < k ∧ i ∉ S := fun i hi hn => by
    rw [List.mem_append] at hn
    have h1 : i ∉ S := fun z => hn (.inl z)
    have h2 : i ≠ k := fun z => hn (.inr (by simp [z]))
    exact ⟨by omega, h1⟩
  refine ⟨?_, ?_, ?_, ?_, ?_, ?_, ?_⟩
  · rw [List.pairwise_append]
    refine ⟨r.sorted, List.pairwise_singleton _ _, fun x hx y hy => ?_⟩
    rw [List.mem_singleton] at hy
    rw [hy]; exact r.lt x hx
  · intro i hi
    rcases List.mem_append.mp hi with z | z
    · exact Nat.lt_succ_of_lt (r.lt i z)
    · rw [List.mem_singleton] at z; omega
  · intro i hi hn
    obtain ⟨h1, h2⟩ := old i hi hn
    obtain ⟨p1, p2, p3, p4⟩ := r.pair i h1 h2
    refine ⟨by omega, fun z => ?_, p3, p4⟩
    rcases List.mem_append.mp z with z | z
    · exact p2 z
    · rw [List.mem_singleton] at z; omega
  · intro i hi hn w hw
    obtain ⟨h1, h2⟩ := old i hi hn
    rcases List.mem_append.mp hw with z | z
    · exact r.inopen i h1 h2 w z
    · rw [List.mem_singleton] at z
      have := (r.pair i h1 h2).1
      omega
  · intro i j hi hj ni nj
    obtain ⟨h1, h2⟩ := old i hi ni
    obtain ⟨h3, h4⟩ := old j hj nj
    exact r.cross i j h1 h3 h2 h4
  · intro i hi hn
    obtain ⟨h1, h2⟩ := old i hi hn
    exact r.dir i h1 h2
  · intro i hi
    rcases List.mem_append.mp hi with z | z
    · exact r.opn i z
    · rw [List.mem_singleton] at z; rw [z]; exact hb
theorem Run.pop {b : Nat → Bool} {k t : Nat} {f : Nat → Nat} {S : List Nat} (r : Run b k f (S ++ [t])) (hb : b k = false) : Run b (k + 1) (put (put f k t) t k) S := by
  have tk : t < k := r.lt t (by simp)
  have srt := List.pairwise_append.mp r.sorted
  have tS : t ∉ S := fun z => absurd (srt.2.2 t z t (by simp)) (Nat.lt_irrefl _)
  have kS : k ∉ S := fun z => absurd (r.lt k (by simp [z])) (Nat.lt_irrefl _)
  have gk : put (put f k t) t k k = t := by unfold put; rw [if_neg (by omega), if_pos rfl]
  have gt : put (put f k t) t k t = k := by unfold put; rw [if_pos rfl]
  have go : ∀ i, i ≠ k → i ≠ t → put (put f k t) t k i = f i := fun i h1 h2 => by unfold put; rw [if_neg h2, if_neg h1]
  have old : ∀ i, i < k + 1 → i ∉ S → i ≠ k → i ≠ t → i < k ∧ i ∉ S ++ [t] := fun i hi hn h1 h2 => ⟨by omega, fun z => by
    rcases List.mem_append.mp z with z | z
    · exact hn z
    · rw [List.mem_singleton] at z; exact h2 z⟩
  have gl : ∀ i, i < k + 1 → i ∉ S → put (put f k t) t k i < k + 1 := fun i hi hn => by
    by_cases e1 : i = k
    · rw [e1, gk]; omega
    · by_cases e2 : i = t
      · rw [e2, gt]; omega
      · obtain ⟨h1, h2⟩ := old i hi hn e1 e2
        rw [go i e1 e2]
        have := (r.pair i h1 h2).1
        omega
  refine ⟨srt.1, fun i hi => Nat.lt_succ_of_lt (r.lt i (by simp [hi])), ?_, ?_, ?_, ?_, fun i hi => r.opn i (by simp [hi])⟩
  · intro i hi hn
    by_cases e1 : i = k
    · subst e1; rw [gk, gt]; exact ⟨by omega, tS, by omega, rfl⟩
    · by_cases e2 : i = t
      · subst e2; rw [gt, gk]; exact ⟨by omega, kS, by omega, rfl⟩
      · obtain ⟨h1, h2⟩ := old i hi hn e1 e2
        obtain ⟨p1, p2, p3, p4⟩ := r.pair i h1 h2
        have q1 : f i ≠ t := fun z => p2 (by simp [z])
        rw [go i e1 e2, go (f i) (by omega) q1]
        exact ⟨by omega, fun z => p2 (by simp [z]), p3, p4⟩
  · intro i hi hn w hw
    by_cases e1 : i = k
    · subst e1; rw [gk]; omega
    · by_cases e2 : i = t
      · subst e2
        have := srt.2.2 w hw i (by simp)
        omega
      · obtain ⟨h1, h2⟩ := old i hi hn e1 e2
        rw [go i e1 e2]
        exact r.inopen i h1 h2 w (by simp [hw])
  · intro i j hi hj ni nj
    have lj := gl j hj nj
    by_cases e1 : i = k
    · subst e1; omega
    · by_cases e2 : i = t
      · subst e2; rw [gt]; omega
      · obtain ⟨h1, h2⟩ := old i hi ni e1 e2
        have p1 := (r.pair i h1 h2).1
        rw [go i e1 e2]
        by_cases e3 : j = k
        · subst e3; omega
        · by_cases e4 : j = t
          · subst e4
            have := r.inopen i h1 h2 j (by simp)
            omega
          · obtain ⟨h3, h4⟩ := old j hj nj e3 e4
            rw [go j e3 e4]
            exact r.cross i j h1 h3 h2 h4
  · intro i hi hn
    by_cases e1 : i = k
    · subst e1; rw [gk, hb]; constructor
      · intro z; cases z
      · intro z; omega
    · by_cases e2 : i = t
      · subst e2; rw [gt]
        exact ⟨fun _ => tk, fun _ => r.opn i (by simp)⟩
      · obtain ⟨h1, h2⟩ := old i hi hn e1 e2
        rw [go i e1 e2]
        exact r.dir i h1 h2
theorem Run.done {b : Nat → Bool} {n : Nat} {f : Nat → Nat} (r : Run b n f []) : IsArcs n f ∧ ∀ i, i < n → (b i = true ↔ i < f i) :=
  ⟨⟨fun i h => (r.pair i h (by simp)).1, fun i h => (r.pair i h (by simp)).2.2.1, fun i h => (r.pair i h (by simp)).2.2.2, fun i j h1 h2 => r.cross i j h1 h2 (by simp) (by simp)⟩, fun i h => r.dir i h (by simp)⟩

/-! ## the open ones ahead of a place -/
def opens (f : Nat → Nat) (k : Nat) : List Nat := (List.range k).filter fun i => decide (k ≤ f i)
theorem mem_opens {f : Nat → Nat} {k i : Nat} : i ∈ opens f k ↔ i < k ∧ k ≤ f i := by simp [opens]
theorem opens_sorted (f : Nat → Nat) (k : Nat) : (opens f k).Pairwise (· < ·) := (List.pairwise_lt_range).filter _
theorem opens_push {f : Nat → Nat} {k : Nat} (pair : ∀ i, i < k → f i = k → f k = i) (h : k < f k) : opens f (k + 1) = opens f k ++ [k] := by
  unfold opens
  rw [List.range_succ, List.filter_append]
  congr 1
  · apply List.filter_congr
    intro i hi
    rw [List.mem_range] at hi
    have : f i ≠ k := fun e => by have := pair i hi e; omega
    rw [decide_eq_decide]
    omega
  · simp; omega
/-- the last of a sorted list is its greatest -/
theorem last_ge : ∀ {S : List Nat} {t : Nat}, S.Pairwise (· < ·) → S.getLast? = some t → ∀ w, w ∈ S → w ≤ t := by
  intro S t hs hl w hw
  obtain ⟨S', rfl⟩ := List.getLast?_eq_some_iff.mp hl
  rcases List.mem_append.mp hw with z | z
  · exact Nat.le_of_lt ((List.pairwise_append.mp hs).2.2 w z t (by simp))
  · rw [List.mem_singleton] at z; omega
theorem opens_pop {f : Nat → Nat} {k : Nat} (pair : ∀ i, i < k → (f i = k ↔ i = f k)) (h : f k < k) (hl : (opens f k).getLast? = some (f k)) : opens f (k + 1) = (opens f k).dropLast := by
  obtain ⟨S, hS⟩ := List.getLast?_eq_some_iff.mp hl
  have srt := opens_sorted f k
  rw [hS] at srt ⊢
  rw [List.dropLast_concat]
  have e1 : opens f (k + 1) = (opens f k).filter fun i => decide (i ≠ f k) := by
    unfold opens
    rw [List.range_succ, List.filter_append, List.filter_filter]
    have : List.filter (fun i => decide (k + 1 ≤ f i)) [k] = [] := by simp; omega
    rw [this, List.append_nil]
    apply List.filter_congr
    intro i hi
    rw [List.mem_range] at hi
    have := pair i hi
    rw [← Bool.decide_and, decide_eq_decide]
    constructor
    · intro z; exact ⟨fun y => by have := this.mpr y; omega, by omega⟩
    · intro ⟨z, y⟩
      have : f i ≠ k := fun q => z (this.mp q)
      omega
  rw [e1, hS, List.filter_append]
  have e2 : List.filter (fun i => decide (i ≠ f k)) [f k] = [] := by simp
  rw [e2, List.append_nil]
  apply List.filter_eq_self.mpr
  intro i hi
  have := (List.pairwise_append.mp srt).2.2 i hi (f k) (by simp)
  simp; omega
/-- .. of arcs it is the partner, where an arc ends -/
theorem opens_last {n : Nat} {f : Nat → Nat} {k : Nat} (A : IsArcs n f) (hk : k < n) (h : f k < k) : (opens f k).getLast? = some (f k) := by
  have hm : f k ∈ opens f k := mem_opens.mpr ⟨h, by rw [A.back k hk]; exact Nat.le_refl _⟩
  obtain ⟨t, ht⟩ : ∃ t, (opens f k).getLast? = some t := by
    cases e : (opens f k).getLast? with
    | none => rw [List.getLast?_eq_none_iff] at e; rw [e] at hm; cases hm
    | some t => exact ⟨t, rfl⟩
  have hge := last_ge (opens_sorted f k) ht (f k) hm
  have htm : t ∈ opens f k := List.mem_of_getLast? ht
  obtain ⟨h1, h2⟩ := mem_opens.mp htm
  by_cases e : t = f k
  · rw [ht, e]
  · exfalso
    have tn : t < n := by omega
    have : f t ≠ k := fun z => e (by rw [← z, A.back t tn])
    have hc := A.cross (f k) t (A.lt k hk) tn
    rw [A.back k hk] at hc
    omega
theorem opens_end {n : Nat} {f : Nat → Nat} (A : IsArcs n f) : opens f n = [] := by
  apply List.eq_nil_iff_forall_not_mem.mpr
  intro i hi
  obtain ⟨h1, h2⟩ := mem_opens.mp hi
  have := A.lt i h1
  omega
end Rl

set_option linter.all false
namespace Rl
/-! ## what the program's tests are worth -/
def isLenM (b : Int) : Bool := decide (b % 2 = 0) && (decide (2 ≤ b) && decide (b ≤ 40))
def leadsBackM (xs : List Int) (i : Int) : Bool :=
  decide (0 ≤ xs.getD i.toNat 0) && (decide (xs.getD i.toNat 0 < xs.length) && (decide (xs.getD i.toNat 0 ≠ i) && decide (xs.getD (xs.getD i.toNat 0).toNat 0 = i)))
def allBackM (xs : List Int) : Bool := (List.range xs.length).all fun i => leadsBackM xs i
def noCrossM (xs : List Int) : Bool := decide (∀ i, i < xs.length → ∀ j, j < xs.length → ¬ (i < j ∧ (j : Int) < xs.getD i 0 ∧ xs.getD i 0 < xs.getD j 0))
def isArcsM (xs : List Int) : Bool := isLenM xs.length && (allBackM xs && noCrossM xs)
/-- the bridges joined by pairs -/
structure Pairs (n : Nat) (f : Nat → Nat) : Prop where
  lt : ∀ i, i < n → f i < n
  ne : ∀ i, i < n → f i ≠ i
  back : ∀ i, i < n → f (f i) = i
theorem IsArcs.pairs {n : Nat} {f : Nat → Nat} (A : IsArcs n f) : Pairs n f := ⟨A.lt, A.ne, A.back⟩
theorem leads_tab {n : Nat} {f : Nat → Nat} {i : Nat} (h : i < n) (A : Pairs n f) : leadsBackM (tab n f) i = true := by
  unfold leadsBackM
  simp only [Int.toNat_natCast, tab_getD h, tab_getD (A.lt i h), tab_length, A.back i h]
  have h1 := A.lt i h
  have h2 := A.ne i h
  simp
  omega
theorem allBack_tab {n : Nat} {f : Nat → Nat} (A : Pairs n f) : allBackM (tab n f) = true := by
  unfold allBackM
  rw [List.all_eq_true]
  intro i hi
  rw [List.mem_range, tab_length] at hi
  exact leads_tab hi A
theorem allBack_of {xs : List Int} (h : allBackM xs = true) : ∃ f, xs = tab xs.length f ∧ Pairs xs.length f := by
  have hb : ∀ i, i < xs.length → 0 ≤ xs.getD i 0 ∧ xs.getD i 0 < xs.length ∧ xs.getD i 0 ≠ i ∧ xs.getD (xs.getD i 0).toNat 0 = i := fun i hi => by
    have := List.all_eq_true.mp h i (List.mem_range.mpr hi)
    unfold leadsBackM at this
    simpa using this
  refine ⟨fun i => (xs.getD i 0).toNat, ?_, ⟨fun i hi => ?_, fun i hi => ?_, fun i hi => ?_⟩⟩
  · apply List.ext_getElem?
    intro i
    by_cases hi : i < xs.length
    · rw [tab_get hi, List.getElem?_eq_getElem hi]
      have := (hb i hi).1
      rw [List.getD_eq_getElem?_getD, List.getElem?_eq_getElem hi] at this ⊢
      simp at this ⊢
      omega
    · rw [List.getElem?_eq_none (by omega), List.getElem?_eq_none (by rw [tab_length]; omega)]
  · have := hb i hi; omega
  · have := hb i hi; omega
  · have := hb i hi; omega
theorem noCross_tab {n : Nat} {f : Nat → Nat} : noCrossM (tab n f) = true ↔ ∀ i j, i < n → j < n → ¬ (i < j ∧ j < f i ∧ f i < f j) := by
  unfold noCrossM
  rw [decide_eq_true_eq, tab_length]
  constructor
  · intro h i j hi hj z
    apply h i hi j hj
    rw [tab_getD hi, tab_getD hj]
    omega
  · intro h i hi j hj z
    rw [tab_getD hi, tab_getD hj] at z
    exact h i j hi hj (by omega)
theorem isArcs_tab {n : Nat} {f : Nat → Nat} (A : IsArcs n f) (h2 : n % 2 = 0) (h0 : 2 ≤ n) (h1 : n ≤ 40) : isArcsM (tab n f) = true := by
  unfold isArcsM isLenM
  rw [allBack_tab A.pairs, noCross_tab.mpr A.cross, tab_length]
  simp
  omega
theorem isArcs_of {xs : List Int} (h : isArcsM xs = true) : ∃ f, xs = tab xs.length f ∧ IsArcs xs.length f ∧ xs.length % 2 = 0 ∧ 2 ≤ xs.length ∧ xs.length ≤ 40 := by
  unfold isArcsM at h
  rw [Bool.and_eq_true, Bool.and_eq_true] at h
  obtain ⟨h1, h2, h3⟩ := h
  obtain ⟨f, e, A⟩ := allBack_of h2
  unfold isLenM at h1
  simp at h1
  rw [e] at h3
  exact ⟨f, e, ⟨A.lt, A.ne, A.back, noCross_tab.mp h3⟩, by omega, by omega, by omega⟩
/-! ## a walk with the waiting ones finds out whether any two cross -/
theorem mem_last {f : Nat → Nat} {n k : Nat} (A : Pairs n f) (hk : k < n) (h : f k < k) : ∃ S t, opens f k = S ++ [t] := by
  have hm : f k ∈ opens f k := mem_opens.mpr ⟨h, by rw [A.back k hk]; exact Nat.le_refl _⟩
  cases e : (opens f k).getLast? with
  | none => rw [List.getLast?_eq_none_iff] at e; rw [e] at hm; cases hm
  | some t => exact ⟨_, t, (List.getLast?_eq_some_iff.mp e).choose_spec⟩
theorem cross_found {f : Nat → Nat} {n k t : Nat} {S : List Nat} (A : Pairs n f) (hk : k < n) (h : f k < k) (hS : opens f k = S ++ [t]) (ht : t ≠ f k) : ¬ ∀ i j, i < n → j < n → ¬ (i < j ∧ j < f i ∧ f i < f j) := by
  intro z
  have hl : (opens f k).getLast? = some t := by rw [hS]; simp
  have hm : f k ∈ opens f k := mem_opens.mpr ⟨h, by rw [A.back k hk]; exact Nat.le_refl _⟩
  have hge := last_ge (opens_sorted f k) hl (f k) hm
  obtain ⟨h1, h2⟩ := mem_opens.mp (List.mem_of_getLast? hl)
  have tn : t < n := by omega
  have : f t ≠ k := fun z => ht (by rw [← z, A.back t tn])
  have hc := z (f k) t (A.lt k hk) tn
  rw [A.back k hk] at hc
  omega
theorem no_cross_end {f : Nat → Nat} {n : Nat} (A : Pairs n f) (h : ∀ t, t < n → f t < t → (opens f t).getLast? = some (f t)) : ∀ i j, i < n → j < n → ¬ (i < j ∧ j < f i ∧ f i < f j) := by
  intro i j hi hj ⟨h1, h2, h3⟩
  have ht := A.lt i hi
  have hb := A.back i hi
  have hl := h (f i) ht (by omega)
  rw [hb] at hl
  have := last_ge (opens_sorted f (f i)) hl j (mem_opens.mpr ⟨h2, by omega⟩)
  omega
theorem Pairs.iffk {f : Nat → Nat} {n k : Nat} (A : Pairs n f) (hk : k < n) : ∀ i, i < k → (f i = k ↔ i = f k) := fun i hi =>
  ⟨fun e => by rw [← e, A.back i (by omega)], fun e => by rw [e, A.back k hk]⟩
/-! ## the draw -/
def cellAt (ns : List Int) (k : Int) : Int := ns.getD k.toNat 0
/-! ## words -/
def word (n : Nat) (f : Nat → Nat) : List Nat := (List.range n).map fun k => if k < f k then 40 else 41
theorem word_length (n : Nat) (f : Nat → Nat) : (word n f).length = n := by simp [word]
theorem word_get {n : Nat} {f : Nat → Nat} {k : Nat} (h : k < n) : (word n f)[k]? = some (if k < f k then 40 else 41) := by simp [word, h]
end Rl
namespace Rl
theorem ex_last {α : Type} {S : List α} (h : 0 < S.length) : ∃ S' t, S = S' ++ [t] := by
  have hn : S ≠ [] := fun z => by rw [z] at h; exact absurd h (Nat.lt_irrefl _)
  exact ⟨S.dropLast, S.getLast hn, (List.dropLast_concat_getLast hn).symm⟩
end Rl
namespace Rl
/-- the partners of the arcs that have ended ahead of a place -/
def part (g : Nat → Nat) (i : Nat) : Nat → Nat := fun j => if j < i ∧ g j < i then g j else 0
end Rl

set_option linter.all false
namespace Rl
/-! ## turned, mirrored, side by side, covered -/
/-- the place b on, round -/
def rot (n : Nat) (b : Int) (i : Nat) : Nat := (((i : Int) + b) % (n : Int)).toNat
/-- arcs turned by b -/
def turnF (n : Nat) (g : Nat → Nat) (b : Int) : Nat → Nat := fun i => rot n b (g (rot n (-b) i))
/-- mirrored -/
def mirF (n : Nat) (g : Nat → Nat) : Nat → Nat := fun i => n - 1 - g (n - 1 - i)
/-- side by side -/
def sideF (n : Nat) (g k : Nat → Nat) : Nat → Nat := fun i => if i < n then g i else n + k (i - n)
/-- covered -/
def covF (n : Nat) (g : Nat → Nat) : Nat → Nat := fun i => if i = 0 then n + 1 else if i = n + 1 then 0 else g (i - 1) + 1
end Rl

set_option linter.all false
namespace Rl
open Classical
/-! ## points that hang together, and how many heaps of them there are -/
inductive Conn {α : Type} (R : α → α → Prop) : α → α → Prop where
  | refl (a : α) : Conn R a a
  | step {a b c : α} : Conn R a b → (R b c ∨ R c b) → Conn R a c
section
variable {α β : Type} {R S : α → α → Prop}

/-- one of each heap -/
noncomputable def reps (E : α → α → Prop) : List α → List α
  | [] => []
  | a :: l => if ∃ b, b ∈ l ∧ E a b then reps E l else a :: reps E l
noncomputable def cls (E : α → α → Prop) (l : List α) : Nat := (reps E l).length
structure Eqv (E : α → α → Prop) : Prop where
  refl : ∀ a, E a a
  symm : ∀ a b, E a b → E b a
  trans : ∀ a b c, E a b → E b c → E a c
variable {E : α → α → Prop}
end
end Rl

set_option linter.all false
namespace Rl
open Classical
/-! ## a part that is put for a greater one -/
section
variable {α β : Type} {B : α → α → Prop} {S : β → β → Prop}
/-- g puts the small one's points into the great one, r takes the great one's points back, but those that hang with none (the rings) -/
structure Retract (B : α → α → Prop) (S : β → β → Prop) (g : β → α) (ring : α → Prop) (r : α → β) : Prop where
  up : ∀ u v, S u v → Conn B (g u) (g v)
  rg : ∀ p q, B p q → (ring p ↔ ring q)
  down : ∀ p q, B p q → ¬ ring p → Conn S (r p) (r q)
  back : ∀ u, Conn S (r (g u)) u
end

/-! ## roads -/
/-- the ties of the arcs above and below -/
def Ties (n : Nat) (a b : Nat → Nat) : Nat → Nat → Prop := fun i j => i < n ∧ (j = a i ∨ j = b i)
/-- how many roads -/
noncomputable def many (n : Nat) (a b : Nat → Nat) : Nat := cls (Conn (Ties n a b)) (List.range n)
/-- bridges told over: f keeps apart, and keeps the arcs -/
structure Names (n m : Nat) (a b a' b' : Nat → Nat) (f : Nat → Nat) : Prop where
  lt : ∀ i, i < n → f i < m
  inj : ∀ i j, i < n → j < n → f i = f j → i = j
  above : ∀ i, i < n → a' (f i) = f (a i)
  below : ∀ i, i < n → b' (f i) = f (b i)
end Rl

set_option linter.all false
namespace Rl
open Classical
/-! ## rows laid beneath one another -/
/-- the ties of x above y: x's bridges are 0 .. 2n - 1, y's stand 2n on -/
def GT (n : Nat) (x y : Nat → Nat) (p q : Nat) : Prop := (p < 2 * n ∧ q = x p) ∨ (∃ w, w < 2 * n ∧ p = 2 * n + w ∧ q = 2 * n + y w) ∨ (∃ k, k < n ∧ p = 2 * n - 1 - k ∧ q = 2 * n + k)
/-- the outer ends -/
def out (n k : Nat) : Nat := if k < n then k else k + 2 * n
structure Comp (n : Nat) (x y c : Nat → Nat) : Prop where
  pr : Pairs (2 * n) c
  con : ∀ k, k < 2 * n → Conn (GT n x y) (out n k) (out n (c k))
  uni : ∀ k j, k < 2 * n → j < 2 * n → Conn (GT n x y) (out n k) (out n j) → j = k ∨ j = c k
/-- hangs with no outer end -/
def Ring (n : Nat) (x y : Nat → Nat) (p : Nat) : Prop := p < 4 * n ∧ ∀ k, k < 2 * n → ¬ Conn (GT n x y) p (out n k)
noncomputable def rgs (n : Nat) (x y : Nat → Nat) : Nat := cls (Conn (GT n x y)) ((List.range (4 * n)).filter fun p => decide (Ring n x y p))
section
variable {n : Nat} {x y c : Nat → Nat} {Ctx : Nat → Nat → Prop}
def Big (n : Nat) (x y : Nat → Nat) (Ctx : Nat → Nat → Prop) (p q : Nat) : Prop := GT n x y p q ∨ Ctx p q
def Small (n : Nat) (c : Nat → Nat) (Ctx : Nat → Nat → Prop) (u v : Nat) : Prop := (u < 2 * n ∧ v = c u) ∨ Ctx (out n u) (out n v)
noncomputable def pick (n : Nat) (x y : Nat → Nat) (p : Nat) : Nat := if 4 * n ≤ p then p - 2 * n else if h : ∃ k, k < 2 * n ∧ Conn (GT n x y) p (out n k) then h.choose else 0
end
end Rl

set_option linter.all false
namespace Rl
open Classical
/-! ## told over -/
section
variable {α β : Type} {B : α → α → Prop} {S : β → β → Prop}
end
/-! ## three rows -/
/-- z beneath: its bridges stand 4n on -/
def CtxL (n : Nat) (z : Nat → Nat) (p q : Nat) : Prop := (∃ w, w < 2 * n ∧ p = 4 * n + w ∧ q = 4 * n + z w) ∨ (∃ k, k < n ∧ p = 4 * n - 1 - k ∧ q = 4 * n + k)
/-- x above: its bridges stand 4n on too -/
def CtxR (n : Nat) (x : Nat → Nat) (p q : Nat) : Prop := (∃ w, w < 2 * n ∧ p = 4 * n + w ∧ q = 4 * n + x w) ∨ (∃ k, k < n ∧ p = 4 * n + (2 * n - 1 - k) ∧ q = k)
/-- the halves changed about -/
def swp (n u : Nat) : Nat := if u < 2 * n then u + 2 * n else if u < 4 * n then u - 2 * n else u
/-- from x, y, z to y, z, x -/
def rol (n p : Nat) : Nat := if p < 2 * n then p + 4 * n else if p < 6 * n then p - 2 * n else p
def ror (n p : Nat) : Nat := if p < 4 * n then p + 2 * n else if p < 6 * n then p - 4 * n else p
section
variable {n : Nat} {x y z c12 c23 d e : Nat → Nat}
end
end Rl

set_option linter.all false
namespace Rl
open Classical
/-! ## closed round, and the straight ones -/
def st (n : Nat) : Nat → Nat := fun k => 2 * n - 1 - k
theorem st_arcs (n : Nat) : IsArcs (2 * n) (st n) := ⟨fun i hi => by unfold st; omega, fun i hi => by unfold st; omega, fun i hi => by unfold st; omega, fun i j hi hj => by unfold st; omega⟩
noncomputable def closedN (n : Nat) (c : Nat → Nat) : Nat := many (2 * n) c (st n)
def CtxC (n : Nat) (p q : Nat) : Prop := ∃ k, k < n ∧ p = k ∧ q = 4 * n - 1 - k
section
variable {n : Nat} {x y c : Nat → Nat}
end
/-! ## how many rings at least, at most -/
end Rl

set_option linter.all false
namespace Rl
open Classical
/-! ## walking from a point: a, then b, and so on -/
structure Invo (n : Nat) (b : Nat → Nat) : Prop where
  lt : ∀ i, i < n → b i < n
  back : ∀ i, i < n → b (b i) = i
def itr (a b : Nat → Nat) (f : Nat) : Nat → Nat
  | 0 => f
  | i + 1 => b (a (itr a b f i))
def wayL (a b : Nat → Nat) (f : Nat) : Nat → List Nat
  | 0 => []
  | k + 1 => wayL a b f k ++ [itr a b f k, a (itr a b f k)]
section
variable {n : Nat} {a b : Nat → Nat}
/-- the walk from f ends behind m steps: at a fixed point of b, or at f again -/
structure Stops (a b : Nat → Nat) (f m : Nat) : Prop where
  stop : b (a (itr a b f m)) = a (itr a b f m) ∨ b (a (itr a b f m)) = f
  go : ∀ i, i < m → b (a (itr a b f i)) ≠ a (itr a b f i) ∧ b (a (itr a b f i)) ≠ f
noncomputable def stopAt (a b : Nat → Nat) (f : Nat) : Nat := if h : ∃ m, Stops a b f m then h.choose else 0
noncomputable def way (a b : Nat → Nat) (f : Nat) : List Nat := wayL a b f (stopAt a b f + 1)
end
/-! ## going through all points, a walk from each that was not met -/
noncomputable def scan (w : Nat → List Nat) (k0 : List Nat) : Nat → List Nat
  | 0 => []
  | i + 1 => if i ∈ k0 ++ ((scan w k0 i).map w).flatten then scan w k0 i else scan w k0 i ++ [i]
section
variable {w : Nat → List Nat} {k0 : List Nat}
end
end Rl

set_option linter.all false
namespace Rl
open Classical
/-! ## the bridges that are left -/
def leftL (n : Nat) (met : List Nat) : List Nat := (List.range n).filter fun x => !met.contains x
section
variable {n : Nat} {a b : Nat → Nat}
/-- the points met by walks -/
noncomputable def metL (a b : Nat → Nat) (i : Nat) : List Nat := ((scan (way a b) [] i).map (way a b)).flatten
end
end Rl

set_option linter.all false
namespace Rl
open PySem
/-! ## a text that is read, or not -/
def Reads (z : Str) (n : Nat) (g : Nat → Nat) : Prop := z.cps.toList = word n g ∧ IsArcs n g ∧ n % 2 = 0 ∧ 2 ≤ n ∧ n ≤ 40
def bAt (z : Str) : Nat → Bool := fun k => decide (z.cps[k]? = some 40)
theorem reads_len {z : Str} {n : Nat} {g : Nat → Nat} (h : Reads z n g) : z.cps.size = n := by
  have := congrArg List.length h.1
  rw [word_length] at this
  simpa using this
theorem reads_at {z : Str} {n : Nat} {g : Nat → Nat} (h : Reads z n g) {k : Nat} (hk : k < z.cps.size) : z.cps[k]? = some (if k < g k then 40 else 41) := by
  rw [← Array.getElem?_toList, h.1, word_get (by rw [← reads_len h]; exact hk)]
theorem no_len {z : Str} (h : isLenM (z.cps.size : Int) = false) : ∀ n g, ¬ Reads z n g := by
  intro n g r
  have e := reads_len r
  obtain ⟨_, _, h2, h0, h1⟩ := r
  have : isLenM (z.cps.size : Int) = true := by rw [e]; unfold isLenM; simp; omega
  rw [h] at this
  cases this
structure RdInv (z : Str) (i : Nat) (f : Nat → Nat) (S : List Nat) : Prop where
  run : Run (bAt z) i f S
  len : S.length ≤ i
  par : (i - S.length) % 2 = 0
  sgn : ∀ k, k < i → z.cps[k]? = some 40 ∨ z.cps[k]? = some 41
  uni : ∀ n g, Reads z n g → S = opens g i
theorem RdInv.start (z : Str) (f : Nat → Nat) : RdInv z 0 f [] := ⟨Run.start _ _, Nat.le_refl _, rfl, fun k h => absurd h (Nat.not_lt_zero _), fun _ _ _ => rfl⟩
theorem sgn_step {z : Str} {i : Nat} (h : ∀ k, k < i → z.cps[k]? = some 40 ∨ z.cps[k]? = some 41) (hc : z.cps[i]? = some 40 ∨ z.cps[i]? = some 41) : ∀ k, k < i + 1 → z.cps[k]? = some 40 ∨ z.cps[k]? = some 41 := fun k hk => by
  by_cases e : k = i
  · rw [e]; exact hc
  · exact h k (by omega)
theorem RdInv.push {z : Str} {i : Nat} {f : Nat → Nat} {S : List Nat} (r : RdInv z i f S) (hc : z.cps[i]? = some 40) : RdInv z (i + 1) f (S ++ [i]) := by
  have hi : i < z.cps.size := (Array.getElem?_eq_some_iff.mp hc).1
  refine ⟨r.run.push (by unfold bAt; exact decide_eq_true hc), ?_, ?_, sgn_step r.sgn (.inl hc), fun n g q => ?_⟩
  · have := r.len; simp; exact this
  · have := r.len; have := r.par; simp; exact this
  · have h1 := reads_at q hi
    rw [hc] at h1
    have hd : i < g i := by
      by_cases c : i < g i
      · exact c
      · rw [if_neg c] at h1; exact absurd (Option.some.inj h1) (by decide)
    rw [r.uni n g q, opens_push (fun j hj e => ?_) hd]
    rw [← e]
    exact q.2.1.back j (by rw [← reads_len q]; omega)
theorem RdInv.pop {z : Str} {i t : Nat} {f : Nat → Nat} {S : List Nat} (r : RdInv z i f (S ++ [t])) (hc : z.cps[i]? = some 41) : RdInv z (i + 1) (put (put f i t) t i) S := by
  have hi : i < z.cps.size := (Array.getElem?_eq_some_iff.mp hc).1
  have l := r.len
  have p := r.par
  rw [List.length_append, List.length_singleton] at l p
  refine ⟨r.run.pop (by unfold bAt; exact decide_eq_false (by rw [hc]; decide)), by omega, by omega, sgn_step r.sgn (.inr hc), fun n g q => ?_⟩
  have h1 := reads_at q hi
  rw [hc] at h1
  have hin : i < n := by rw [← reads_len q]; exact hi
  have hd : g i < i := by
    have := q.2.1.ne i hin
    by_cases c : i < g i
    · rw [if_pos c] at h1; exact absurd (Option.some.inj h1) (by decide)
    · omega
  have hl := opens_last q.2.1 hin hd
  rw [opens_pop (q.2.1.pairs.iffk hin) hd hl, ← r.uni n g q, List.dropLast_concat]
theorem RdInv.bad {z : Str} {i c : Nat} {f : Nat → Nat} {S : List Nat} (r : RdInv z i f S) (hc : z.cps[i]? = some c) (h : c ≠ 40) (h2 : c ≠ 41 ∨ S = []) : ∀ n g, ¬ Reads z n g := by
  intro n g q
  have hi : i < z.cps.size := (Array.getElem?_eq_some_iff.mp hc).1
  have h1 := reads_at q hi
  rw [hc] at h1
  have hin : i < n := by rw [← reads_len q]; exact hi
  by_cases d : i < g i
  · rw [if_pos d] at h1; exact h (Option.some.inj h1)
  · rw [if_neg d] at h1
    rcases h2 with h2 | h2
    · exact h2 (Option.some.inj h1)
    · have := q.2.1.ne i hin
      have hl := opens_last q.2.1 hin (by omega)
      rw [← r.uni n g q, h2] at hl
      cases hl
theorem RdInv.opn {z : Str} {f : Nat → Nat} {S : List Nat} (r : RdInv z z.cps.size f S) (h : S ≠ []) : ∀ n g, ¬ Reads z n g := by
  intro n g q
  apply h
  rw [r.uni n g q, reads_len q]
  exact opens_end q.2.1
theorem RdInv.done {z : Str} {f : Nat → Nat} (r : RdInv z z.cps.size f []) (h0 : 2 ≤ z.cps.size) (h1 : z.cps.size ≤ 40) : Reads z z.cps.size f := by
  obtain ⟨A, d⟩ := r.run.done
  refine ⟨?_, A, by have := r.par; simpa using this, h0, h1⟩
  apply List.ext_getElem?
  intro k
  by_cases hk : k < z.cps.size
  · rw [word_get hk, Array.getElem?_toList]
    have dk := d k hk
    unfold bAt at dk
    rw [decide_eq_true_eq] at dk
    by_cases c : k < f k
    · rw [if_pos c]; exact dk.mpr c
    · rw [if_neg c]
      rcases r.sgn k hk with e | e
      · exact absurd (dk.mp e) c
      · exact e
  · rw [List.getElem?_eq_none (by simp; omega), List.getElem?_eq_none (by rw [word_length]; omega)]
theorem put_comm (f : Nat → Nat) {t k : Nat} (h : t ≠ k) : put (put f t k) k t = put (put f k t) t k := by
  funext x
  unfold put
  by_cases a : x = k
  · subst a; rw [if_pos rfl, if_neg (Ne.symm h), if_pos rfl]
  · rw [if_neg a]
    by_cases b : x = t
    · subst b; rw [if_pos rfl, if_pos rfl]
    · rw [if_neg b, if_neg b, if_neg a]
end Rl
namespace Rl
open PySem L2
theorem one_sign {c d : Nat} (h : decide (V.str ⟨#[c]⟩ = V.str ⟨#[d]⟩) = true) : c = d := by
  have e := of_decide_eq_true h
  injection e with e
  injection e with e
  have := congrArg Array.toList e
  simpa using this
theorem small_log {i : Nat} (h : i ≤ 1000) : ((i : Int)).natAbs.log2 < 1920 := by
  have h1 : ((i : Int)).natAbs = i := Int.natAbs_natCast i
  rw [h1]
  by_cases h0 : i = 0
  · rw [h0]; decide
  · have := Nat.log2_lt (n := i) (k := 10) h0
    exact Nat.lt_trans (this.mpr (Nat.lt_of_le_of_lt h (by decide))) (by decide)
end Rl
namespace Rl
open PySem L2
end Rl
namespace Rl
open PySem L2
end Rl
namespace Rl
open PySem L2
end Rl
namespace Rl
open PySem L2
end Rl

set_option Elab.async false
set_option linter.all false
set_option maxRecDepth 100000
namespace Rl
open PySem L2
/-! ## lists of bridges as values -/
def ni (l : List Nat) : List Int := l.map fun j : Nat => (j : Int)
theorem ne_no {x y : Int} (h : ¬ (!decide (V.int x = V.int y)) = true) : x = y := by
  by_cases z : x = y
  · exact z
  · exfalso; apply h; simp [z]
theorem eq_yes {x y : Int} (h : decide (V.int x = V.int y) = true) : x = y := V.int.inj (of_decide_eq_true h)
theorem eq_no {x y : Int} (h : ¬ decide (V.int x = V.int y) = true) : x ≠ y := fun z => h (decide_eq_true (congrArg V.int z))
/-- rows of bridges that were made: r holds them -/
structure RowsAt (H H' : Hp) (as : List Addr) (ws : List (List Nat)) : Prop where
  len : as.length = ws.length
  row : ∀ (i : Nat) (x : Addr) (w : List Nat), as[i]? = some x → ws[i]? = some w → H' x = some (.lst ((ni w).map V.int))
  new : ∀ x, x ∈ as → H x = none
  nd : as.Nodup
/-! ## a list comprehension with a test, the heap growing only -/
end Rl

set_option linter.all false
namespace Rl
open Classical
/-! ## two adjacent bridges joined and taken away -/
/-- the bridge p of the shorter row, in the longer one -/
def upP (i p : Nat) : Nat := if p < i then p else p + 2
def dnP (i p : Nat) : Nat := if p < i then p else p - 2
def cap (i : Nat) (c : Nat → Nat) : Nat → Nat := fun p =>
  dnP i (if c (upP i p) = i then c (i + 1) else if c (upP i p) = i + 1 then c i else c (upP i p))
section
variable {N i : Nat} {c : Nat → Nat}
/-- what the longer row's end is -/
def capU (i : Nat) (c : Nat → Nat) (u : Nat) : Nat := if c u = i then c (i + 1) else if c u = i + 1 then c i else c u
end
/-! ## the seam closed pair by pair -/
def zip (n : Nat) (x y : Nat → Nat) : Nat → (Nat → Nat)
  | 0 => sideF (2 * n) x y
  | k + 1 => cap (2 * n - 1 - k) (zip n x y k)
def emb (n k p : Nat) : Nat := if p < 2 * n - k then p else p + 2 * k
end Rl

set_option linter.all false
namespace Rl
open Classical
/-! ## the seam -/
def sm (n p : Nat) : Nat := if n ≤ p ∧ p < 3 * n then 4 * n - 1 - p else p
section
variable {n : Nat} {x y : Nat → Nat}
def uno (n p : Nat) : Nat := if p < n then p else p - 2 * n
/-- the walk's end -/
noncomputable def lastP (a b : Nat → Nat) (f : Nat) : Nat := a (itr a b f (stopAt a b f))
noncomputable def laidF (n : Nat) (x y : Nat → Nat) (k : Nat) : Nat := uno n (lastP (sideF (2 * n) x y) (sm n) (out n k))
/-! ## the rings -/
/-- the ends' walks -/
noncomputable def endL (n : Nat) (x y : Nat → Nat) (k : Nat) : List Nat := ((List.range k).map fun j => way (sideF (2 * n) x y) (sm n) (out n j)).flatten
end
end Rl

set_option Elab.async false
set_option linter.all false
set_option maxRecDepth 100000
namespace Rl
open PySem L2
def endB (n p : Nat) : Bool := decide (p < n) || decide (3 * n ≤ p)
end Rl
namespace Rl
open PySem L2
end Rl

set_option linter.all false
namespace Rl
open Classical
/-! ## how many ways a word can go on -/
def W : Nat → Nat → Nat
  | 0 => fun _ => 1
  | o + 1 => fun c => Nat.rec 0 (fun c r => if c < o then 0 else W o (c + 1) + r) c
theorem W_step (o c : Nat) : W (o + 1) (c + 1) = if c < o then 0 else W o (c + 1) + W (o + 1) c := rfl
theorem W_low {o c : Nat} (h : c < o) : W o c = 0 := by
  cases o with
  | zero => omega
  | succ o =>
    cases c with
    | zero => rfl
    | succ c => rw [W_step, if_pos (by omega)]
def ah (o c : Nat) : Nat := if 0 < o then W (o - 1) c else 0
/-- a word that can be written with so many ( and so many ) -/
def Okw : Nat → Nat → List Nat → Prop
  | o, c, [] => o = 0 ∧ c = 0
  | o, c, s :: w => (s = 40 ∧ 0 < o ∧ o ≤ c ∧ Okw (o - 1) c w) ∨ (s = 41 ∧ o < c ∧ Okw o (c - 1) w)
def rk : Nat → Nat → List Nat → Nat
  | _, _, [] => 0
  | o, c, s :: w => if s = 40 then rk (o - 1) c w else ah o c + rk o (c - 1) w
def un : Nat → Nat → Nat → Nat → List Nat
  | 0, _, _, _ => []
  | k + 1, o, c, r => if c = 0 then [] else if r < ah o c then 40 :: un k (o - 1) c r else 41 :: un k o (c - 1) (r - ah o c)
/-! ## words and arcs -/
/-! ## all words in their order -/
def allW : Nat → Nat → Nat → List (List Nat)
  | 0, _, _ => [[]]
  | k + 1, o, c => (if 0 < o then (allW k (o - 1) c).map (40 :: ·) else []) ++ (if o < c then (allW k o (c - 1)).map (41 :: ·) else [])
/-! ## how many there are: the sums of products -/
def rowL : Nat → List Nat
  | 0 => List.replicate 21 1
  | o + 1 => (List.range 21).foldl (fun acc c => acc ++ [if c = 0 then 0 else if c - 1 < o then 0 else (rowL o).getD c 0 + acc.getD (c - 1) 0]) []
end Rl

set_option linter.all false
namespace Rl
theorem w0_1 : W 0 1 = 1 := rfl
theorem w0_2 : W 0 2 = 1 := rfl
theorem w0_3 : W 0 3 = 1 := rfl
theorem w1_0 : W 1 0 = 0 := W_low (by decide)
theorem w1_1 : W 1 1 = 1 := (W_step 0 0).trans ((if_neg (by decide)).trans ((congr (congrArg Nat.add w0_1) w1_0).trans (by decide +kernel)))
theorem w1_2 : W 1 2 = 2 := (W_step 0 1).trans ((if_neg (by decide)).trans ((congr (congrArg Nat.add w0_2) w1_1).trans (by decide +kernel)))
theorem w1_3 : W 1 3 = 3 := (W_step 0 2).trans ((if_neg (by decide)).trans ((congr (congrArg Nat.add w0_3) w1_2).trans (by decide +kernel)))
theorem w2_1 : W 2 1 = 0 := W_low (by decide)
theorem w2_2 : W 2 2 = 2 := (W_step 1 1).trans ((if_neg (by decide)).trans ((congr (congrArg Nat.add w1_2) w2_1).trans (by decide +kernel)))
theorem w2_3 : W 2 3 = 5 := (W_step 1 2).trans ((if_neg (by decide)).trans ((congr (congrArg Nat.add w1_3) w2_2).trans (by decide +kernel)))
theorem w3_2 : W 3 2 = 0 := W_low (by decide)
theorem w3_3 : W 3 3 = 5 := (W_step 2 2).trans ((if_neg (by decide)).trans ((congr (congrArg Nat.add w2_3) w3_2).trans (by decide +kernel)))
def catT : List Nat := [1, 1, 2, 5, 14, 42, 132, 429, 1430, 4862, 16796, 58786, 208012, 742900, 2674440, 9694845, 35357670, 129644790, 477638700, 1767263190, 6564120420]
end Rl

set_option Elab.async false
set_option linter.all false
set_option maxRecDepth 100000
namespace L2
open PySem PySem.Spec PyProof.Rows
end L2
namespace Rl
open PySem L2
/-- the table of ways, as it lies -/
def WaysAt (H : Hp) (r : Addr) (m : Nat) : Prop := ∃ as : List Addr, H r = some (.lst (as.map V.ref)) ∧ as.length = m + 1 ∧ ∀ (o : Nat) (x : Addr), as[o]? = some x → H x = some (.lst ((tab (m + 1) (W o)).map V.int))
end Rl

set_option Elab.async false
set_option linter.all false
set_option maxRecDepth 100000
set_option maxHeartbeats 4000000
namespace Rl
open PySem L2
def top (i : Nat) : Stmt := PySem.Challenge.pw_riverloops_k14_each_refusal_its_own.main.body.getD i (.Pass ⟨0, 0, 0, 0⟩)
abbrev s_is_length : Stmt := top 10
theorem sc_is_length : FnScope ["bridges"] ["bridges"] (defScope s_is_length) := ⟨rfl, rfl, rfl, by decide +kernel, rfl, by decide +kernel, by decide +kernel⟩
abbrev s_leads_back : Stmt := top 12
theorem sc_leads_back : FnScope ["some", "here", "there"] ["some", "here"] (defScope s_leads_back) := ⟨rfl, rfl, rfl, by decide +kernel, rfl, by decide +kernel, by decide +kernel⟩
abbrev s_all_lead_back : Stmt := top 11
theorem sc_all_lead_back : FnScope ["some", "here"] ["some"] (defScope s_all_lead_back) := ⟨rfl, rfl, rfl, by decide +kernel, rfl, by decide +kernel, by decide +kernel⟩
abbrev s_none_cross : Stmt := top 13
theorem sc_none_cross : FnScope ["some", "waiting", "here", "there"] ["some"] (defScope s_none_cross) := ⟨rfl, rfl, rfl, by decide +kernel, rfl, by decide +kernel, by decide +kernel⟩
abbrev s_is_arcs : Stmt := top 9
theorem sc_is_arcs : FnScope ["some"] ["some"] (defScope s_is_arcs) := ⟨rfl, rfl, rfl, by decide +kernel, rfl, by decide +kernel, by decide +kernel⟩
abbrev s_refuse_no_arcs : Stmt := top 14
theorem sc_refuse_no_arcs : FnScope ["some", "called"] ["some", "called"] (defScope s_refuse_no_arcs) := ⟨rfl, rfl, rfl, by decide +kernel, rfl, by decide +kernel, by decide +kernel⟩
abbrev s_refuse_no_rows : Stmt := top 15
theorem sc_refuse_no_rows : FnScope ["one", "other"] ["one", "other"] (defScope s_refuse_no_rows) := ⟨rfl, rfl, rfl, by decide +kernel, rfl, by decide +kernel, by decide +kernel⟩
abbrev s_refuse_unlike : Stmt := top 16
theorem sc_refuse_unlike : FnScope ["one", "other"] ["one", "other"] (defScope s_refuse_unlike) := ⟨rfl, rfl, rfl, by decide +kernel, rfl, by decide +kernel, by decide +kernel⟩
abbrev s_refuse_too_many : Stmt := top 17
theorem sc_refuse_too_many : FnScope ["bridges"] ["bridges"] (defScope s_refuse_too_many) := ⟨rfl, rfl, rfl, by decide +kernel, rfl, by decide +kernel, by decide +kernel⟩
abbrev s_join_bridges : Stmt := top 18
theorem sc_join_bridges : FnScope ["arcs", "here", "there"] ["arcs", "here", "there"] (defScope s_join_bridges) := ⟨rfl, rfl, rfl, by decide +kernel, rfl, by decide +kernel, by decide +kernel⟩
abbrev s_word_of : Stmt := top 20
theorem sc_word_of : FnScope ["arcs"] ["arcs"] (defScope s_word_of) := ⟨rfl, rfl, rfl, by decide +kernel, rfl, by decide +kernel, by decide +kernel⟩
abbrev s_arcs_of : Stmt := top 21
theorem sc_arcs_of : FnScope ["word", "arcs", "waiting", "here", "sign"] ["word"] (defScope s_arcs_of) := ⟨rfl, rfl, rfl, by decide +kernel, rfl, by decide +kernel, by decide +kernel⟩
abbrev s_turned : Stmt := top 22
theorem sc_turned : FnScope ["arcs", "by", "bridges"] ["arcs", "by"] (defScope s_turned) := ⟨rfl, rfl, rfl, by decide +kernel, rfl, by decide +kernel, by decide +kernel⟩
abbrev s_mirrored : Stmt := top 23
theorem sc_mirrored : FnScope ["arcs", "last"] ["arcs"] (defScope s_mirrored) := ⟨rfl, rfl, rfl, by decide +kernel, rfl, by decide +kernel, by decide +kernel⟩
abbrev s_beside : Stmt := top 24
theorem sc_beside : FnScope ["one", "other"] ["one", "other"] (defScope s_beside) := ⟨rfl, rfl, rfl, by decide +kernel, rfl, by decide +kernel, by decide +kernel⟩
abbrev s_covered : Stmt := top 25
theorem sc_covered : FnScope ["arcs"] ["arcs"] (defScope s_covered) := ⟨rfl, rfl, rfl, by decide +kernel, rfl, by decide +kernel, by decide +kernel⟩
abbrev s_refuse_no_number : Stmt := top 27
theorem sc_refuse_no_number : FnScope ["number", "least", "most", "called"] ["number", "least", "most", "called"] (defScope s_refuse_no_number) := ⟨rfl, rfl, rfl, by decide +kernel, rfl, by decide +kernel, by decide +kernel⟩
abbrev s_refuse_no_size : Stmt := top 28
theorem sc_refuse_no_size : FnScope ["size"] ["size"] (defScope s_refuse_no_size) := ⟨rfl, rfl, rfl, by decide +kernel, rfl, by decide +kernel, by decide +kernel⟩
abbrev s_all_ways : Stmt := top 29
theorem sc_all_ways : FnScope ["size", "ways", "opening", "row", "closing"] ["size"] (defScope s_all_ways) := ⟨rfl, rfl, rfl, by decide +kernel, rfl, by decide +kernel, by decide +kernel⟩
abbrev s_many : Stmt := top 31
theorem sc_many : FnScope ["size"] ["size"] (defScope s_many) := ⟨rfl, rfl, rfl, by decide +kernel, rfl, by decide +kernel, by decide +kernel⟩
abbrev s_arcs_at : Stmt := top 32
theorem sc_arcs_at : FnScope ["size", "number", "ways", "opening", "closing", "rest", "signs", "ahead"] ["size", "number"] (defScope s_arcs_at) := ⟨rfl, rfl, rfl, by decide +kernel, rfl, by decide +kernel, by decide +kernel⟩
abbrev s_number_of : Stmt := top 33
theorem sc_number_of : FnScope ["arcs", "word", "opening", "closing", "ways", "number", "sign"] ["arcs"] (defScope s_number_of) := ⟨rfl, rfl, rfl, by decide +kernel, rfl, by decide +kernel, by decide +kernel⟩
abbrev s_roads : Stmt := top 36
theorem sc_roads : FnScope ["above", "below", "found", "met", "first", "road"] ["above", "below"] (defScope s_roads) := ⟨rfl, rfl, rfl, by decide +kernel, rfl, by decide +kernel, by decide +kernel⟩
abbrev s_many_roads : Stmt := top 38
theorem sc_many_roads : FnScope ["above", "below"] ["above", "below"] (defScope s_many_roads) := ⟨rfl, rfl, rfl, by decide +kernel, rfl, by decide +kernel, by decide +kernel⟩
abbrev s_one_road : Stmt := top 39
theorem sc_one_road : FnScope ["above", "below", "here", "there", "far"] ["above"] (defScope s_one_road) := ⟨rfl, rfl, rfl, by decide +kernel, rfl, by decide +kernel, by decide +kernel⟩
abbrev s_rows_with : Stmt := top 40
theorem sc_rows_with : FnScope ["size", "roads", "rows", "pairs", "above", "below"] ["size", "roads"] (defScope s_rows_with) := ⟨rfl, rfl, rfl, by decide +kernel, rfl, by decide +kernel, by decide +kernel⟩
abbrev s_straight : Stmt := top 42
theorem sc_straight : FnScope ["size"] ["size"] (defScope s_straight) := ⟨rfl, rfl, rfl, by decide +kernel, rfl, by decide +kernel, by decide +kernel⟩
abbrev s_hook : Stmt := top 43
theorem sc_hook : FnScope ["size", "j", "arcs", "lower"] ["size", "j"] (defScope s_hook) := ⟨rfl, rfl, rfl, by decide +kernel, rfl, by decide +kernel, by decide +kernel⟩
abbrev s_laid : Stmt := top 44
theorem sc_laid : FnScope ["one", "other", "both", "ends", "arcs", "met", "end", "way"] ["one", "other"] (defScope s_laid) := ⟨rfl, rfl, rfl, by decide +kernel, rfl, by decide +kernel, by decide +kernel⟩
abbrev s_closed : Stmt := top 48
theorem sc_closed : FnScope ["arcs"] ["arcs"] (defScope s_closed) := ⟨rfl, rfl, rfl, by decide +kernel, rfl, by decide +kernel, by decide +kernel⟩
abbrev s_law_cell_at : Stmt := top 50
theorem sc_law_cell_at : FnScope ["script", "k"] ["script", "k"] (defScope s_law_cell_at) := ⟨rfl, rfl, rfl, by decide +kernel, rfl, by decide +kernel, by decide +kernel⟩
abbrev s_law_which : Stmt := top 51
theorem sc_law_which : FnScope ["e", "first"] ["e"] (defScope s_law_which) := ⟨rfl, rfl, rfl, by decide +kernel, rfl, by decide +kernel, by decide +kernel⟩
abbrev s_law_of_two : Stmt := top 52
theorem sc_law_of_two : FnScope ["way", "one", "other"] ["way", "one", "other"] (defScope s_law_of_two) := ⟨rfl, rfl, rfl, by decide +kernel, rfl, by decide +kernel, by decide +kernel⟩
abbrev s_law_no_arcs : Stmt := top 53
theorem sc_law_no_arcs : FnScope ["cell", "far", "some", "bad", "way"] ["cell", "far"] (defScope s_law_no_arcs) := ⟨rfl, rfl, rfl, by decide +kernel, rfl, by decide +kernel, by decide +kernel⟩
abbrev s_law_unlike : Stmt := top 54
theorem sc_law_unlike : FnScope ["cell", "rows"] ["cell"] (defScope s_law_unlike) := ⟨rfl, rfl, rfl, by decide +kernel, rfl, by decide +kernel, by decide +kernel⟩
abbrev s_law_no_number : Stmt := top 55
theorem sc_law_no_number : FnScope ["cell", "far", "size", "way"] ["cell", "far"] (defScope s_law_no_number) := ⟨rfl, rfl, rfl, by decide +kernel, rfl, by decide +kernel, by decide +kernel⟩
abbrev s_law : Stmt := top 56
theorem sc_law : FnScope ["script", "way", "cell", "far", "full", "told", "e"] ["script"] (defScope s_law) := ⟨rfl, rfl, rfl, by decide +kernel, rfl, by decide +kernel, by decide +kernel⟩
section
variable {P : Program} {w : World} {K : PySem.W.Frag} {mg : Str → Option Value} {base : Heap} {dV : Value} {f : Addr} {fd : FuncData}
def sp_is_length : Sp := fun vs H Q _ => ∃ i : Int, vs = [.int i] ∧ Q (.bl (isLenM i)) H
theorem ok_is_length (F : FunD K "is_length" "is_length" s_is_length dV f fd) {tM : Tok} (mMOST_ARCS : mg "MOST_ARCS" = some (.int 20 tM)) : FnOk P w K mg base CX0 1 f fd ["bridges"] sp_is_length := by
  refine F.ok (k := 0) sc_is_length (fun vs H Q E h => ?_) (fun cdv A outer s H vs Q E hr h => ?_)
  · obtain ⟨_, rfl, _⟩ := h; rfl
  obtain ⟨i, rfl, q⟩ := h
  have nd := sc_is_length.nd
  refine ⟨_, (pss_one (ps_ret (pe_and (pe_cmpR op_eq (pe_op op_mod (pv 0) pe_int) pe_int (nomark _)) (pe_and (pe_cmpR op_ge (pv 0) pe_int (nomark _)) (pe_one (pe_cmpR op_le (pv 0) (pe_op op_mul pe_int (pe_glob (v := .int 20) rfl mMOST_ARCS ⟨_, rfl⟩)) (nomark _))))))), ?_⟩
  unfold isLenM at q
  (repeat (first | refine ⟨_, rfl, ?_⟩ | refine ⟨_, _, rfl, rfl, ?_⟩ | refine ⟨rfl, ?_⟩ | refine ⟨_, _, rfl, .inl (by assumption), ?_⟩ | refine ⟨Or.inl ⟨by decide, by decide⟩, ?_⟩ | refine ⟨(by show (0 : Int) < _; decide), ?_⟩ | refine ⟨⟨by decide, by decide⟩, ?_⟩))
  refine ite2 (fun c => ?_) (fun c => ?_)
  · have c' : i % 2 = 0 := V.int.inj (of_decide_eq_true c)
    (repeat (first | refine ⟨_, rfl, ?_⟩ | refine ⟨_, _, rfl, rfl, ?_⟩ | refine ⟨rfl, ?_⟩ | refine ⟨_, _, rfl, .inl (by assumption), ?_⟩ | refine ⟨Or.inl ⟨by decide, by decide⟩, ?_⟩ | refine ⟨(by show (0 : Int) < _; decide), ?_⟩ | refine ⟨⟨by decide, by decide⟩, ?_⟩))
    refine ite2 (fun d => ?_) (fun d => ?_)
    · (repeat (first | refine ⟨_, rfl, ?_⟩ | refine ⟨_, _, rfl, rfl, ?_⟩ | refine ⟨rfl, ?_⟩ | refine ⟨_, _, rfl, .inl (by assumption), ?_⟩ | refine ⟨Or.inl ⟨by decide, by decide⟩, ?_⟩ | refine ⟨(by show (0 : Int) < _; decide), ?_⟩ | refine ⟨⟨by decide, by decide⟩, ?_⟩))
      exact toB q (by simp [c', of_decide_eq_true d])
    · exact toB q (by simp at d; simp [c']; omega)
  · exact toB q (by
      have c' : ¬ i % 2 = 0 := fun z => c (decide_eq_true (congrArg V.int z))
      simp [c'])

def sp_leads_back (K : PySem.W.Frag) : Sp := fun vs H Q _ => ∃ (a : Addr) (xs : List Int) (i : Int), vs = [.ref a, .int i] ∧ SqL K H a (xs.map V.int) ∧ 0 ≤ i ∧ i < xs.length ∧ Q (.bl (leadsBackM xs i)) H
theorem ok_leads_back (F : FunD K "leads_back" "leads_back" s_leads_back dV f fd) (mlen : mg "len" = none) : FnOk P w K mg base CX0 1 f fd ["some", "here"] (sp_leads_back K) := by
  refine F.ok (k := 0) sc_leads_back (fun vs H Q E h => ?_) (fun cdv A outer s H vs Q E hr h => ?_)
  · obtain ⟨_, _, _, rfl, _⟩ := h; rfl
  obtain ⟨a, xs, i, rfl, hS, h0, h1, q⟩ := h
  have nd := sc_leads_back.nd
  refine ⟨_, (pss_cons (ps_set (i := 2) nd rfl (Or.inl rfl) (pe_ix ix_list (pv 0) (pv 1) (fun _ _ => rfl)))
  (pss_cons (ps_if (PW.pt (pw_or (pt_cmpR op_lt (pv 2) pe_int (nomark _)) (pw_or1 (pt_cmpR op_ge (pv 2) (pe_callB call_len_seq rfl mlen PySem.boot_len (pa_cons (pv 0) pa_nil)) (nomark _))))) (pss_one (ps_ret pe_bl)) pss_nil)
  (pss_one (ps_ret (pe_and (pe_cmpR op_ne (pv 2) (pv 1) (nomark _)) (pe_one (pe_cmpR op_eq (pe_ix ix_list (pv 0) (pv 2) (fun _ _ => rfl)) (pv 1) (nomark _)))))))), ?_⟩
  obtain ⟨v, hv⟩ : ∃ v, xs[i.toNat]? = some v := ⟨_, List.getElem?_eq_getElem (by omega)⟩
  have gv : xs.getD i.toNat 0 = v := by rw [List.getD_eq_getElem?_getD, hv]; rfl
  unfold leadsBackM at q
  rw [gv] at q
  (repeat (first | refine ⟨_, rfl, ?_⟩ | refine ⟨_, _, rfl, rfl, ?_⟩ | refine ⟨rfl, ?_⟩ | refine ⟨_, _, rfl, .inl (by assumption), ?_⟩ | refine ⟨Or.inl ⟨by decide, by decide⟩, ?_⟩ | refine ⟨(by show (0 : Int) < _; decide), ?_⟩ | refine ⟨⟨by decide, by decide⟩, ?_⟩))
  refine ⟨_, _, _, _, rfl, rfl, hS, atI_int h0 hv, ?_⟩
  (repeat (first | refine ⟨_, rfl, ?_⟩ | refine ⟨_, _, rfl, rfl, ?_⟩ | refine ⟨rfl, ?_⟩ | refine ⟨_, _, rfl, .inl (by assumption), ?_⟩ | refine ⟨Or.inl ⟨by decide, by decide⟩, ?_⟩ | refine ⟨(by show (0 : Int) < _; decide), ?_⟩ | refine ⟨⟨by decide, by decide⟩, ?_⟩))
  refine ite2 (fun c => ?_) (fun c => ?_)
  · refine iteT ?_
    exact toB q (by have := of_decide_eq_true c; rw [decide_eq_false (by omega)]; rfl)
  have c1 : 0 ≤ v := by simp at c; exact c
  (repeat (first | refine ⟨_, rfl, ?_⟩ | refine ⟨_, _, rfl, rfl, ?_⟩ | refine ⟨rfl, ?_⟩ | refine ⟨_, _, rfl, .inl (by assumption), ?_⟩ | refine ⟨Or.inl ⟨by decide, by decide⟩, ?_⟩ | refine ⟨(by show (0 : Int) < _; decide), ?_⟩ | refine ⟨⟨by decide, by decide⟩, ?_⟩))
  refine ite2 (fun d => ?_) (fun d => ?_)
  · exact toB q (by simp at d; rw [decide_eq_false (show ¬ v < (xs.length : Int) by omega)]; simp)
  have d1 : v < xs.length := by simp at d; exact d
  obtain ⟨u, hu⟩ : ∃ u, xs[v.toNat]? = some u := ⟨_, List.getElem?_eq_getElem (by omega)⟩
  have gu : xs.getD v.toNat 0 = u := by rw [List.getD_eq_getElem?_getD, hu]; rfl
  rw [gu] at q
  (repeat (first | refine ⟨_, rfl, ?_⟩ | refine ⟨_, _, rfl, rfl, ?_⟩ | refine ⟨rfl, ?_⟩ | refine ⟨_, _, rfl, .inl (by assumption), ?_⟩ | refine ⟨Or.inl ⟨by decide, by decide⟩, ?_⟩ | refine ⟨(by show (0 : Int) < _; decide), ?_⟩ | refine ⟨⟨by decide, by decide⟩, ?_⟩))
  refine ite2 (fun e => ?_) (fun e => ?_)
  · have e1 : v ≠ i := fun z => by rw [z] at e; simp at e
    (repeat (first | refine ⟨_, rfl, ?_⟩ | refine ⟨_, _, rfl, rfl, ?_⟩ | refine ⟨rfl, ?_⟩ | refine ⟨_, _, rfl, .inl (by assumption), ?_⟩ | refine ⟨Or.inl ⟨by decide, by decide⟩, ?_⟩ | refine ⟨(by show (0 : Int) < _; decide), ?_⟩ | refine ⟨⟨by decide, by decide⟩, ?_⟩))
    refine ⟨_, _, _, _, rfl, rfl, hS, atI_int c1 hu, ?_⟩
    (repeat (first | refine ⟨_, rfl, ?_⟩ | refine ⟨_, _, rfl, rfl, ?_⟩ | refine ⟨rfl, ?_⟩ | refine ⟨_, _, rfl, .inl (by assumption), ?_⟩ | refine ⟨Or.inl ⟨by decide, by decide⟩, ?_⟩ | refine ⟨(by show (0 : Int) < _; decide), ?_⟩ | refine ⟨⟨by decide, by decide⟩, ?_⟩))
    exact toB q (by simp [c1, d1, e1])
  · have e1 : v = i := by
      simp at e; exact e
    exact toB q (by simp [e1])

def sp_all_lead_back (K : PySem.W.Frag) : Sp := fun vs H Q _ => ∃ (a : Addr) (xs : List Int), vs = [.ref a] ∧ SqL K H a (xs.map V.int) ∧ xs.length ≤ 1000 ∧ Q (.bl (allBackM xs)) H
theorem ok_all_lead_back (F : FunD K "all_lead_back" "all_lead_back" s_all_lead_back dV f fd) (c_leads_back : Fn P w K mg base CX0 "leads_back" ["some", "here"] [] 1 (sp_leads_back K)) (mlen : mg "len" = none) (mrange : mg "range" = none) : FnOk P w K mg base CX0 2 f fd ["some"] (sp_all_lead_back K) := by
  refine F.ok (k := 1) sc_all_lead_back (fun vs H Q E h => ?_) (fun cdv A outer s H vs Q E hr h => ?_)
  · obtain ⟨_, _, rfl, _⟩ := h; rfl
  obtain ⟨a, xs, rfl, hS, hz, q⟩ := h
  have nd := sc_all_lead_back.nd
  refine ⟨_, (pss_cons (ps_for PassesOwn.never rfl (pi_range1 rfl mrange (pa_cons (pe_callB call_len_seq rfl mlen PySem.boot_len (pa_cons (pv 0) pa_nil)) pa_nil)) (pg_name (i := 1) nd rfl (Or.inl rfl)) (pss_one (ps_if (pt_not (pt_val (pe_fn c_leads_back hr (by decide) rfl (pa_cons (pv 0) (pa_cons (pv 1) pa_nil))))) (pss_one (ps_ret pe_bl)) pss_nil)))
  (pss_one (ps_ret pe_bl))), ?_⟩
  have hl : (xs.map V.int).length = xs.length := List.length_map _
  (repeat (first | refine ⟨_, rfl, ?_⟩ | refine ⟨_, _, rfl, rfl, ?_⟩ | refine ⟨rfl, ?_⟩ | refine ⟨_, _, rfl, .inl (by assumption), ?_⟩ | refine ⟨Or.inl ⟨by decide, by decide⟩, ?_⟩ | refine ⟨(by show (0 : Int) < _; decide), ?_⟩ | refine ⟨⟨by decide, by decide⟩, ?_⟩))
  refine ⟨by omega, by omega, ?_⟩
  rw [Int.toNat_natCast]
  refine for_range (fun i σ H' => H' = H ∧ (∃ v, σ = [some (.ref a), v]) ∧ ∀ j, j < i → leadsBackM xs j = true) ⟨rfl, ⟨_, rfl⟩, fun j h => absurd h (Nat.not_lt_zero _)⟩ ?_ ?_
  · rintro i σ H' hi ⟨rfl, ⟨v, rfl⟩, hb⟩
    rw [hl] at hi
    have e0 : (0 : Int) + (i : Int) = i := by omega
    rw [e0]
    (repeat (first | refine ⟨_, rfl, ?_⟩ | refine ⟨_, _, rfl, rfl, ?_⟩ | refine ⟨rfl, ?_⟩ | refine ⟨_, _, rfl, .inl (by assumption), ?_⟩ | refine ⟨Or.inl ⟨by decide, by decide⟩, ?_⟩ | refine ⟨(by show (0 : Int) < _; decide), ?_⟩ | refine ⟨⟨by decide, by decide⟩, ?_⟩))
    refine ⟨a, xs, (i : Int), rfl, hS, by omega, by omega, ?_⟩
    (repeat (first | refine ⟨_, rfl, ?_⟩ | refine ⟨_, _, rfl, rfl, ?_⟩ | refine ⟨rfl, ?_⟩ | refine ⟨_, _, rfl, .inl (by assumption), ?_⟩ | refine ⟨Or.inl ⟨by decide, by decide⟩, ?_⟩ | refine ⟨(by show (0 : Int) < _; decide), ?_⟩ | refine ⟨⟨by decide, by decide⟩, ?_⟩))
    cases e : leadsBackM xs i with
    | false =>
      refine iteT ?_
      exact toB q (by
        cases e2 : allBackM xs with
        | false => rfl
        | true =>
          have := List.all_eq_true.mp e2 i (List.mem_range.mpr hi)
          rw [e] at this; cases this)
    | true =>
      refine iteF ?_
      refine ⟨rfl, ⟨_, rfl⟩, fun j hj => ?_⟩
      by_cases z : j = i
      · rw [z]; exact e
      · exact hb j (by omega)
  · rintro σ H' ⟨rfl, _, hb⟩
    rw [hl] at hb
    exact toB q (List.all_eq_true.mpr fun j hj => hb j (List.mem_range.mp hj))

def sp_none_cross (K : PySem.W.Frag) : Sp := fun vs H Q _ => ∃ (a : Addr) (n : Nat) (g : Nat → Nat), vs = [.ref a] ∧ SqL K H a ((tab n g).map V.int) ∧ n ≤ 1000 ∧ Pairs n g ∧ ∀ H', Same H H' → Q (.bl (noCrossM (tab n g))) H'
theorem ok_none_cross (F : FunD K "none_cross" "none_cross" s_none_cross dV f fd) (menumerate : mg "enumerate" = none) : FnOk P w K mg base CX0 1 f fd ["some"] (sp_none_cross K) := by
  refine F.ok (k := 0) sc_none_cross (fun vs H Q E h => ?_) (fun cdv A outer s H vs Q E hr h => ?_)
  · obtain ⟨_, _, _, rfl, _⟩ := h; rfl
  obtain ⟨a, n, g, rfl, hS, hz, hP, q⟩ := h
  have nd := sc_none_cross.nd
  refine ⟨_, (pss_cons (ps_set (i := 1) nd rfl (Or.inl rfl) (pe_lst pa_nil))
  (pss_cons (ps_for PassesOwn.never rfl (pi_enum rfl menumerate (pa_cons (pv 0) pa_nil)) (pg_tup rfl (pgs_cons (pg_name (i := 2) nd rfl (Or.inl rfl)) (pgs_cons (pg_name (i := 3) nd rfl (Or.inl rfl)) pgs_nil))) (pss_one (ps_if (pt_cmpR op_gt (pv 3) (pv 2) (nomark _)) (pss_one (ps_expr (pe_bm PySem.F.plainAttrs_list PySem.F.slot_list_append PySem.F.type_list_append mt_append (pv 1) (pa_cons (pv 2) pa_nil)))) (pss_one (ps_if (pt_cmpR op_ne (pe_bm0 PySem.F.plainAttrs_list PySem.F.slot_list_pop PySem.F.type_list_pop mt_pop (pv 1)) (pv 3) (nomark _)) (pss_one (ps_ret pe_bl)) pss_nil)))))
  (pss_one (ps_ret pe_bl)))), ?_⟩
  refine ⟨by decide, fun l hlN => ?_⟩
  have S0 : Same H (upd H l (.lst [])) := same_upd_new hlN _
  (repeat (first | refine ⟨_, rfl, ?_⟩ | refine ⟨_, _, rfl, rfl, ?_⟩ | refine ⟨rfl, ?_⟩ | refine ⟨_, _, rfl, .inl (by assumption), ?_⟩ | refine ⟨Or.inl ⟨by decide, by decide⟩, ?_⟩ | refine ⟨(by show (0 : Int) < _; decide), ?_⟩ | refine ⟨⟨by decide, by decide⟩, ?_⟩))
  refine ⟨⟨_, S0.seq hS⟩, ?_⟩
  refine for_enum (xs := (tab n g).map V.int) (fun i σ H' => Same H H' ∧ H' l = some (.lst ((opens g i).map fun j : Nat => V.int (j : Int))) ∧ (∃ u v, σ = [some (.ref a), some (.ref l), u, v]) ∧ ∀ t, t < i → g t < t → (opens g t).getLast? = some (g t)) ⟨S0, upd_same, ⟨_, _, rfl⟩, fun t h => absurd h (Nat.not_lt_zero _)⟩ (fun i σ H' _ h => h.1.seq hS) ?_ ?_
  · rintro i x σ H' p hx ⟨S1, hw, ⟨u, v, rfl⟩, hb⟩ hp
    have hi : i < n := by
      have := (List.getElem?_eq_some_iff.mp hx).1
      simpa [tab_length] using this
    have ex : x = .int (g i : Int) := by
      rw [List.getElem?_map, tab_get hi] at hx
      exact (Option.some.inj hx).symm
    subst ex
    have hw' : upd H' p (.tup [.int i, .int (g i : Int)]) l = some (.lst ((opens g i).map fun j : Nat => V.int (j : Int))) := by rw [upd_ne (ne_of_none hw hp)]; exact hw
    have S2 : Same H (upd H' p (.tup [.int i, .int (g i : Int)])) := S1.trans (same_upd_new hp _)
    refine ⟨p, _, rfl, SqT.of upd_same, rfl, _, _, rfl, _, _, rfl, rfl, ?_⟩
    (repeat (first | refine ⟨_, rfl, ?_⟩ | refine ⟨_, _, rfl, rfl, ?_⟩ | refine ⟨rfl, ?_⟩ | refine ⟨_, _, rfl, .inl (by assumption), ?_⟩ | refine ⟨Or.inl ⟨by decide, by decide⟩, ?_⟩ | refine ⟨(by show (0 : Int) < _; decide), ?_⟩ | refine ⟨⟨by decide, by decide⟩, ?_⟩))
    refine ite2 (fun c => ?_) (fun c => ?_)
    · have c' : i < g i := by have := of_decide_eq_true c; omega
      (repeat (first | refine ⟨_, rfl, ?_⟩ | refine ⟨_, _, rfl, rfl, ?_⟩ | refine ⟨rfl, ?_⟩ | refine ⟨_, _, rfl, .inl (by assumption), ?_⟩ | refine ⟨Or.inl ⟨by decide, by decide⟩, ?_⟩ | refine ⟨(by show (0 : Int) < _; decide), ?_⟩ | refine ⟨⟨by decide, by decide⟩, ?_⟩))
      refine ⟨.inl ⟨rfl, _, SqL.of hw'⟩, ?_⟩
      (repeat (first | refine ⟨_, rfl, ?_⟩ | refine ⟨_, _, rfl, rfl, ?_⟩ | refine ⟨rfl, ?_⟩ | refine ⟨_, _, rfl, .inl (by assumption), ?_⟩ | refine ⟨Or.inl ⟨by decide, by decide⟩, ?_⟩ | refine ⟨(by show (0 : Int) < _; decide), ?_⟩ | refine ⟨⟨by decide, by decide⟩, ?_⟩))
      refine ⟨l, _, _, rfl, rfl, hw', ?_, ?_⟩
      · rw [List.length_map]
        have : (opens g i).length ≤ i := by
          have := List.length_filter_le (fun j => decide (i ≤ g j)) (List.range i)
          rw [List.length_range] at this
          exact this
        exact small1000 (by omega)
      · refine ⟨S2.upd hlN _, ?_, ⟨_, _, rfl⟩, fun t ht hgt => ?_⟩
        · rw [upd_same, opens_push (fun j hj e => by rw [← e, hP.back j (by omega)]) c', List.map_append]
          rfl
        · by_cases z : t = i
          · subst z; omega
          · exact hb t (by omega) hgt
    · have c' : g i < i := by
        have h1 : ¬ (i : Int) < g i := fun z => c (decide_eq_true z)
        have h2 := hP.ne i hi
        omega
      obtain ⟨S, t, hSt⟩ := mem_last hP hi c'
      (repeat (first | refine ⟨_, rfl, ?_⟩ | refine ⟨_, _, rfl, rfl, ?_⟩ | refine ⟨rfl, ?_⟩ | refine ⟨_, _, rfl, .inl (by assumption), ?_⟩ | refine ⟨Or.inl ⟨by decide, by decide⟩, ?_⟩ | refine ⟨(by show (0 : Int) < _; decide), ?_⟩ | refine ⟨⟨by decide, by decide⟩, ?_⟩))
      refine ⟨.inl ⟨rfl, _, SqL.of hw'⟩, ?_⟩
      refine ⟨l, _, .int t, rfl, rfl, hw', ?_, ?_⟩
      · rw [hSt]; simp
      (repeat (first | refine ⟨_, rfl, ?_⟩ | refine ⟨_, _, rfl, rfl, ?_⟩ | refine ⟨rfl, ?_⟩ | refine ⟨_, _, rfl, .inl (by assumption), ?_⟩ | refine ⟨Or.inl ⟨by decide, by decide⟩, ?_⟩ | refine ⟨(by show (0 : Int) < _; decide), ?_⟩ | refine ⟨⟨by decide, by decide⟩, ?_⟩))
      refine ite2 (fun d => ?_) (fun d => ?_)
      · have d' : t ≠ g i := fun z => by rw [z] at d; simp at d
        exact toB (q _ (S2.upd hlN _)) (by
          cases e : noCrossM (tab n g) with
          | false => rfl
          | true => exact absurd (noCross_tab.mp e) (cross_found hP hi c' hSt d'))
      · have d' : t = g i := by
          by_cases z : t = g i
          · exact z
          · exfalso
            apply d
            simp
            omega
        have hlast : (opens g i).getLast? = some (g i) := by rw [hSt, d']; simp
        refine ⟨S2.upd hlN _, ?_, ⟨_, _, rfl⟩, fun t' ht hgt => ?_⟩
        · rw [upd_same, opens_pop (hP.iffk hi) c' hlast, List.map_dropLast]
        · by_cases z : t' = i
          · rw [z]; exact hlast
          · exact hb t' (by omega) hgt
  · rintro σ H' ⟨S1, hw, _, hb⟩
    rw [List.length_map, tab_length] at hb
    exact toB (q H' S1) (noCross_tab.mpr (no_cross_end hP hb))

def sp_is_arcs (K : PySem.W.Frag) : Sp := fun vs H Q _ => ∃ (a : Addr) (xs : List Int), vs = [.ref a] ∧ SqL K H a (xs.map V.int) ∧ xs.length ≤ 1000 ∧ ∀ H', Same H H' → Q (.bl (isArcsM xs)) H'
theorem ok_is_arcs (F : FunD K "is_arcs" "is_arcs" s_is_arcs dV f fd) (c_is_length : Fn P w K mg base CX0 "is_length" ["bridges"] [] 1 sp_is_length) (c_all_lead_back : Fn P w K mg base CX0 "all_lead_back" ["some"] [] 2 (sp_all_lead_back K)) (c_none_cross : Fn P w K mg base CX0 "none_cross" ["some"] [] 1 (sp_none_cross K)) (mlen : mg "len" = none) : FnOk P w K mg base CX0 3 f fd ["some"] (sp_is_arcs K) := by
  refine F.ok (k := 2) sc_is_arcs (fun vs H Q E h => ?_) (fun cdv A outer s H vs Q E hr h => ?_)
  · obtain ⟨_, _, rfl, _⟩ := h; rfl
  obtain ⟨a, xs, rfl, hS, hz, q⟩ := h
  have nd := sc_is_arcs.nd
  refine ⟨_, (pss_one (ps_ret (pe_and (pe_fn c_is_length hr (by decide) rfl (pa_cons (pe_callB call_len_seq rfl mlen PySem.boot_len (pa_cons (pv 0) pa_nil)) pa_nil)) (pe_and (pe_fn c_all_lead_back hr (by decide) rfl (pa_cons (pv 0) pa_nil)) (pe_one (pe_fn c_none_cross hr (by decide) rfl (pa_cons (pv 0) pa_nil))))))), ?_⟩
  have hl : (xs.map V.int).length = xs.length := List.length_map _
  have q' : ∀ H', Same H H' → Q (.bl (isLenM xs.length && (allBackM xs && noCrossM xs))) H' := q
  (repeat (first | refine ⟨_, rfl, ?_⟩ | refine ⟨_, _, rfl, rfl, ?_⟩ | refine ⟨rfl, ?_⟩ | refine ⟨_, _, rfl, .inl (by assumption), ?_⟩ | refine ⟨Or.inl ⟨by decide, by decide⟩, ?_⟩ | refine ⟨(by show (0 : Int) < _; decide), ?_⟩ | refine ⟨⟨by decide, by decide⟩, ?_⟩))
  rw [hl]
  cases e1 : isLenM xs.length with
  | false => rw [e1] at q'; exact iteF (q' H (Same.refl H))
  | true =>
    rw [e1] at q'
    refine iteT ?_
    (repeat (first | refine ⟨_, rfl, ?_⟩ | refine ⟨_, _, rfl, rfl, ?_⟩ | refine ⟨rfl, ?_⟩ | refine ⟨_, _, rfl, .inl (by assumption), ?_⟩ | refine ⟨Or.inl ⟨by decide, by decide⟩, ?_⟩ | refine ⟨(by show (0 : Int) < _; decide), ?_⟩ | refine ⟨⟨by decide, by decide⟩, ?_⟩))
    refine ⟨a, xs, rfl, hS, hz, ?_⟩
    (repeat (first | refine ⟨_, rfl, ?_⟩ | refine ⟨_, _, rfl, rfl, ?_⟩ | refine ⟨rfl, ?_⟩ | refine ⟨_, _, rfl, .inl (by assumption), ?_⟩ | refine ⟨Or.inl ⟨by decide, by decide⟩, ?_⟩ | refine ⟨(by show (0 : Int) < _; decide), ?_⟩ | refine ⟨⟨by decide, by decide⟩, ?_⟩))
    cases e2 : allBackM xs with
    | false => rw [e2] at q'; exact iteF (q' H (Same.refl H))
    | true =>
      rw [e2] at q'
      obtain ⟨g, eg, hP⟩ := allBack_of e2
      refine iteT ?_
      (repeat (first | refine ⟨_, rfl, ?_⟩ | refine ⟨_, _, rfl, rfl, ?_⟩ | refine ⟨rfl, ?_⟩ | refine ⟨_, _, rfl, .inl (by assumption), ?_⟩ | refine ⟨Or.inl ⟨by decide, by decide⟩, ?_⟩ | refine ⟨(by show (0 : Int) < _; decide), ?_⟩ | refine ⟨⟨by decide, by decide⟩, ?_⟩))
      refine ⟨a, xs.length, g, rfl, by rw [← eg]; exact hS, hz, hP, fun H' S' => ?_⟩
      rw [← eg]
      exact q' H' S'

def sp_refuse_no_arcs (K : PySem.W.Frag) (CA : Addr) : Sp := fun vs H Q E => ∃ (a : Addr) (xs : List Int) (c : Str), vs = [.ref a, .str c] ∧ SqL K H a (xs.map V.int) ∧ xs.length ≤ 1000 ∧ c.length ≤ 1000 ∧ (isArcsM xs = true → ∀ H', Same H H' → Q .non H') ∧ (isArcsM xs = false → ∀ H', Same H H' → E (.ref CA) none H')
theorem ok_refuse_no_arcs {CNoArcs : Addr} (F : FunD K "refuse_no_arcs" "refuse_no_arcs" s_refuse_no_arcs dV f fd) (c_is_arcs : Fn P w K mg base CX0 "is_arcs" ["some"] [] 3 (sp_is_arcs K)) (mNoArcs : mg "NoArcs" = some (.ref CNoArcs)) (xNoArcs : PySem.W.excIn K CNoArcs veMro "ValueError.__new__" = true) : FnOk P w K mg base (CXE P w) 4 f fd ["some", "called"] (sp_refuse_no_arcs K CNoArcs) := by
  refine F.okE (k := 3) sc_refuse_no_arcs (fun vs H Q E h => ?_) (fun cdv A outer s H vs Q E hr h => ?_)
  · obtain ⟨_, _, _, rfl, _⟩ := h; rfl
  obtain ⟨a, xs, c, rfl, hS, hz, hc, q, qe⟩ := h
  have nd := sc_refuse_no_arcs.nd
  refine ⟨_, (pss_one (ps_if (pt_not (pt_val (pe_fn c_is_arcs hr (by decide) rfl (pa_cons (pv 0) pa_nil)))) (pss_one (ps_raise (C := CNoArcs) rfl rfl mNoArcs xNoArcs throws (pa_cons (pe_fstr (pj_cons (pe_fval (pv 1)) (pj_cons pe_str pj_nil))) pa_nil))) pss_nil)), ?_⟩
  (repeat (first | refine ⟨_, rfl, ?_⟩ | refine ⟨_, _, rfl, rfl, ?_⟩ | refine ⟨rfl, ?_⟩ | refine ⟨_, _, rfl, .inl (by assumption), ?_⟩ | refine ⟨Or.inl ⟨by decide, by decide⟩, ?_⟩ | refine ⟨(by show (0 : Int) < _; decide), ?_⟩ | refine ⟨⟨by decide, by decide⟩, ?_⟩))
  refine ⟨a, xs, rfl, hS, hz, fun H' S' => ?_⟩
  (repeat (first | refine ⟨_, rfl, ?_⟩ | refine ⟨_, _, rfl, rfl, ?_⟩ | refine ⟨rfl, ?_⟩ | refine ⟨_, _, rfl, .inl (by assumption), ?_⟩ | refine ⟨Or.inl ⟨by decide, by decide⟩, ?_⟩ | refine ⟨(by show (0 : Int) < _; decide), ?_⟩ | refine ⟨⟨by decide, by decide⟩, ?_⟩))
  cases e : isArcsM xs with
  | true => exact iteF (q e H' S')
  | false =>
    refine iteT ?_
    refine ⟨_, rfl, .inr ⟨c, rfl, by omega⟩, fun y hy => ⟨_, rfl, hy, ⟨_, rfl, by decide, fun y2 => ?_⟩⟩⟩
    exact ⟨(by show 1 ≤ sizeLine; decide), qe e H' S'⟩

def sp_refuse_no_rows (K : PySem.W.Frag) (CA : Addr) : Sp := fun vs H Q E => ∃ (a b : Addr) (xs ys : List Int), vs = [.ref a, .ref b] ∧ SqL K H a (xs.map V.int) ∧ SqL K H b (ys.map V.int) ∧ xs.length ≤ 1000 ∧ ys.length ≤ 1000 ∧ ((isArcsM xs && isArcsM ys) = true → ∀ H', Same H H' → Q .non H') ∧ ((isArcsM xs && isArcsM ys) = false → ∀ H', Same H H' → E (.ref CA) none H')
theorem ok_refuse_no_rows {CNoArcs : Addr} (F : FunD K "refuse_no_rows" "refuse_no_rows" s_refuse_no_rows dV f fd) (cc_refuse_no_arcs : Fn P w K mg base (CXE P w) "refuse_no_arcs" ["some", "called"] [] 4 (sp_refuse_no_arcs K CNoArcs)) : FnOk P w K mg base (CXE P w) 5 f fd ["one", "other"] (sp_refuse_no_rows K CNoArcs) := by
  refine F.okE (k := 4) sc_refuse_no_rows (fun vs H Q E h => ?_) (fun cdv A outer s H vs Q E hr h => ?_)
  · obtain ⟨_, _, _, _, rfl, _⟩ := h; rfl
  obtain ⟨a, b, xs, ys, rfl, hA, hB, hx, hy, q, qe⟩ := h
  have nd := sc_refuse_no_rows.nd
  refine ⟨_, (pss_cons (ps_expr (pe_fnX cc_refuse_no_arcs hr (by decide) rfl passesE (pa_cons (pv 0) (pa_cons pe_str pa_nil))))
  (pss_one (ps_expr (pe_fnX cc_refuse_no_arcs hr (by decide) rfl passesE (pa_cons (pv 1) (pa_cons pe_str pa_nil)))))), ?_⟩
  (repeat (first | refine ⟨_, rfl, ?_⟩ | refine ⟨_, _, rfl, rfl, ?_⟩ | refine ⟨rfl, ?_⟩ | refine ⟨_, _, rfl, .inl (by assumption), ?_⟩ | refine ⟨Or.inl ⟨by decide, by decide⟩, ?_⟩ | refine ⟨(by show (0 : Int) < _; decide), ?_⟩ | refine ⟨⟨by decide, by decide⟩, ?_⟩))
  refine ⟨a, xs, _, rfl, hA, hx, by decide, fun e1 H1 S1 => ?_, fun e1 H1 S1 => qe (by rw [e1]; rfl) H1 S1⟩
  (repeat (first | refine ⟨_, rfl, ?_⟩ | refine ⟨_, _, rfl, rfl, ?_⟩ | refine ⟨rfl, ?_⟩ | refine ⟨_, _, rfl, .inl (by assumption), ?_⟩ | refine ⟨Or.inl ⟨by decide, by decide⟩, ?_⟩ | refine ⟨(by show (0 : Int) < _; decide), ?_⟩ | refine ⟨⟨by decide, by decide⟩, ?_⟩))
  exact ⟨b, ys, _, rfl, S1.seq hB, hy, by decide, fun e2 H2 S2 => q (by rw [e1, e2]; rfl) H2 (S1.trans S2), fun e2 H2 S2 => qe (by rw [e1, e2]; rfl) H2 (S1.trans S2)⟩

/-- two rows that are refused: no arcs, or unlike -/
def RefTwo (K : PySem.W.Frag) (CA CU : Addr) : Sp := fun vs H _ E => ∃ (a b : Addr) (xs ys : List Int), vs = [.ref a, .ref b] ∧ SqL K H a (xs.map V.int) ∧ SqL K H b (ys.map V.int) ∧ xs.length ≤ 1000 ∧ ys.length ≤ 1000 ∧ ((isArcsM xs && isArcsM ys) = true → xs.length ≠ ys.length) ∧ ∀ H', Same H H' → E (.ref (if (isArcsM xs && isArcsM ys) = true then CU else CA)) none H'
def sp_refuse_unlike := RefTwo
theorem ok_refuse_unlike {CNoArcs CUnlike : Addr} (F : FunD K "refuse_unlike" "refuse_unlike" s_refuse_unlike dV f fd) (c_refuse_no_rows : Fn P w K mg base (CXE P w) "refuse_no_rows" ["one", "other"] [] 5 (sp_refuse_no_rows K CNoArcs)) (mlen : mg "len" = none) (mUnlike : mg "Unlike" = some (.ref CUnlike)) (xUnlike : PySem.W.excIn K CUnlike veMro "ValueError.__new__" = true) : FnOk P w K mg base (CXE P w) 6 f fd ["one", "other"] (sp_refuse_unlike K CNoArcs CUnlike) := by
  refine F.okE (k := 5) sc_refuse_unlike (fun vs H Q E h => ?_) (fun cdv A outer s H vs Q E hr h => ?_)
  · obtain ⟨_, _, _, _, rfl, _⟩ := h; rfl
  obtain ⟨a, b, xs, ys, rfl, hA, hB, hx, hy, hd, qe⟩ := h
  have nd := sc_refuse_unlike.nd
  refine ⟨_, (pss_cons (ps_expr (pe_fnX c_refuse_no_rows hr (by decide) rfl passesE (pa_cons (pv 0) (pa_cons (pv 1) pa_nil))))
  (pss_one (ps_if (pt_cmpR op_ne (pe_callB call_len_seq rfl mlen PySem.boot_len (pa_cons (pv 0) pa_nil)) (pe_callB call_len_seq rfl mlen PySem.boot_len (pa_cons (pv 1) pa_nil)) (nomark _)) (pss_one (ps_raise (C := CUnlike) rfl rfl mUnlike xUnlike throws (pa_cons pe_str pa_nil))) pss_nil))), ?_⟩
  (repeat (first | refine ⟨_, rfl, ?_⟩ | refine ⟨_, _, rfl, rfl, ?_⟩ | refine ⟨rfl, ?_⟩ | refine ⟨_, _, rfl, .inl (by assumption), ?_⟩ | refine ⟨Or.inl ⟨by decide, by decide⟩, ?_⟩ | refine ⟨(by show (0 : Int) < _; decide), ?_⟩ | refine ⟨⟨by decide, by decide⟩, ?_⟩))
  refine ⟨a, b, xs, ys, rfl, hA, hB, hx, hy, fun e H1 S1 => ?_, fun e H1 S1 => by have := qe H1 S1; rw [if_neg (by rw [e]; decide)] at this; exact this⟩
  have hA1 := S1.seq hA
  have hB1 := S1.seq hB
  (repeat (first | refine ⟨_, rfl, ?_⟩ | refine ⟨_, _, rfl, rfl, ?_⟩ | refine ⟨rfl, ?_⟩ | refine ⟨_, _, rfl, .inl (by assumption), ?_⟩ | refine ⟨Or.inl ⟨by decide, by decide⟩, ?_⟩ | refine ⟨(by show (0 : Int) < _; decide), ?_⟩ | refine ⟨⟨by decide, by decide⟩, ?_⟩))
  refine ite2 (fun _ => ?_) (fun y => ?_)
  · refine ⟨(by show 1 ≤ sizeLine; decide), ?_⟩
    have := qe H1 S1
    rw [if_pos e] at this
    exact this
  · exfalso
    have := ne_no y
    rw [List.length_map, List.length_map] at this
    exact hd e (by omega)

def sp_refuse_too_many (CT : Addr) : Sp := fun vs H Q E => ∃ n : Int, vs = [.int n] ∧ 40 < n ∧ E (.ref CT) none H
theorem ok_refuse_too_many {CTooMany : Addr} (F : FunD K "refuse_too_many" "refuse_too_many" s_refuse_too_many dV f fd) {tM : Tok} (mMOST_ARCS : mg "MOST_ARCS" = some (.int 20 tM)) (mTooMany : mg "TooMany" = some (.ref CTooMany)) (xTooMany : PySem.W.excIn K CTooMany veMro "ValueError.__new__" = true) : FnOk P w K mg base (CXE P w) 1 f fd ["bridges"] (sp_refuse_too_many CTooMany) := by
  refine F.okE (k := 0) sc_refuse_too_many (fun vs H Q E h => ?_) (fun cdv A outer s H vs Q E hr h => ?_)
  · obtain ⟨_, rfl, _⟩ := h; rfl
  obtain ⟨n, rfl, h1, qe⟩ := h
  have nd := sc_refuse_too_many.nd
  refine ⟨_, (pss_one (ps_if (pt_cmpR op_gt (pv 0) (pe_op op_mul pe_int (pe_glob (v := .int 20) rfl mMOST_ARCS ⟨_, rfl⟩)) (nomark _)) (pss_one (ps_raise (C := CTooMany) rfl rfl mTooMany xTooMany throws (pa_cons (pe_fstr (pj_cons pe_str (pj_cons (pe_fval (pe_glob (v := .int 20) rfl mMOST_ARCS ⟨_, rfl⟩)) (pj_cons pe_str pj_nil)))) pa_nil))) pss_nil)), ?_⟩
  (repeat (first | refine ⟨_, rfl, ?_⟩ | refine ⟨_, _, rfl, rfl, ?_⟩ | refine ⟨rfl, ?_⟩ | refine ⟨_, _, rfl, .inl (by assumption), ?_⟩ | refine ⟨Or.inl ⟨by decide, by decide⟩, ?_⟩ | refine ⟨(by show (0 : Int) < _; decide), ?_⟩ | refine ⟨⟨by decide, by decide⟩, ?_⟩))
  refine ite2 (fun _ => ?_) (fun y => absurd (decide_eq_true (by show (2 : Int) * 20 < n; omega)) y)
  refine ⟨_, rfl, by decide, ?_⟩
  refine ⟨.inl ⟨_, rfl, by decide⟩, fun y hy => ⟨_, rfl, hy, ⟨_, rfl, by decide, fun y2 => ?_⟩⟩⟩
  exact ⟨(by show 1 ≤ sizeLine; decide), qe⟩

def sp_join_bridges : Sp := fun vs H Q _ => ∃ (a : Addr) (xs : List V) (i j : Nat), vs = [.ref a, .int i, .int j] ∧ H a = some (.lst xs) ∧ i < xs.length ∧ j < xs.length ∧ Q .non (upd (upd H a (.lst (xs.set i (.int j)))) a (.lst ((xs.set i (.int j)).set j (.int i))))
theorem ok_join_bridges (F : FunD K "join_bridges" "join_bridges" s_join_bridges dV f fd) : FnOk P w K mg base CX0 1 f fd ["arcs", "here", "there"] sp_join_bridges := by
  refine F.ok (k := 0) sc_join_bridges (fun vs H Q E h => ?_) (fun cdv A outer s H vs Q E hr h => ?_)
  · obtain ⟨_, _, _, _, rfl, _⟩ := h; rfl
  obtain ⟨a, xs, i, j, rfl, hA, hi, hj, q⟩ := h
  have nd := sc_join_bridges.nd
  refine ⟨_, (pss_cons (ps_asg (pv 2) (pg_sub (pv 0) (pv 1) set_list))
  (pss_one (ps_asg (pv 1) (pg_sub (pv 0) (pv 2) set_list)))), ?_⟩
  (repeat (first | refine ⟨_, rfl, ?_⟩ | refine ⟨_, _, rfl, rfl, ?_⟩ | refine ⟨rfl, ?_⟩ | refine ⟨_, _, rfl, .inl (by assumption), ?_⟩ | refine ⟨Or.inl ⟨by decide, by decide⟩, ?_⟩ | refine ⟨(by show (0 : Int) < _; decide), ?_⟩ | refine ⟨⟨by decide, by decide⟩, ?_⟩))
  refine ⟨a, _, _, i, rfl, rfl, hA, ixN_nat hi, ?_⟩
  (repeat (first | refine ⟨_, rfl, ?_⟩ | refine ⟨_, _, rfl, rfl, ?_⟩ | refine ⟨rfl, ?_⟩ | refine ⟨_, _, rfl, .inl (by assumption), ?_⟩ | refine ⟨Or.inl ⟨by decide, by decide⟩, ?_⟩ | refine ⟨(by show (0 : Int) < _; decide), ?_⟩ | refine ⟨⟨by decide, by decide⟩, ?_⟩))
  exact ⟨a, _, _, j, rfl, rfl, upd_same, ixN_nat (by rw [List.length_set]; exact hj), q⟩

/-- a list that tells no arcs -/
def RefOne (K : PySem.W.Frag) (CA : Addr) : Sp := fun vs H _ E => ∃ (a : Addr) (xs : List Int), vs = [.ref a] ∧ SqL K H a (xs.map V.int) ∧ xs.length ≤ 1000 ∧ isArcsM xs = false ∧ ∀ H', Same H H' → E (.ref CA) none H'
def sp_word_of := RefOne
theorem ok_word_of {CNoArcs : Addr} (F : FunD K "word_of" "word_of" s_word_of dV f fd) (c_refuse_no_arcs : Fn P w K mg base (CXE P w) "refuse_no_arcs" ["some", "called"] [.str "the list"] 4 (sp_refuse_no_arcs K CNoArcs)) : FnOk P w K mg base (CXE P w) 5 f fd ["arcs"] (sp_word_of K CNoArcs) := by
  refine F.okE (k := 4) sc_word_of (fun vs H Q E h => ?_) (fun cdv A outer s H vs Q E hr h => ?_)
  · obtain ⟨_, _, rfl, _⟩ := h; rfl
  obtain ⟨a, xs, rfl, hS, hz, hb, qe⟩ := h
  have nd := sc_word_of.nd
  refine ⟨_, (pss_cons (ps_expr (pe_fnX c_refuse_no_arcs hr (by decide) rfl passesE (pa_cons (pv 0) pa_nil)))
  pss_never), ?_⟩
  (repeat (first | refine ⟨_, rfl, ?_⟩ | refine ⟨_, _, rfl, rfl, ?_⟩ | refine ⟨rfl, ?_⟩ | refine ⟨_, _, rfl, .inl (by assumption), ?_⟩ | refine ⟨Or.inl ⟨by decide, by decide⟩, ?_⟩ | refine ⟨(by show (0 : Int) < _; decide), ?_⟩ | refine ⟨⟨by decide, by decide⟩, ?_⟩))
  exact ⟨a, xs, _, rfl, hS, hz, by decide, fun e => absurd e (by rw [hb]; decide), fun _ => qe⟩

def sp_arcs_of (CN : Addr) : Sp := fun vs H Q E => ∃ (z : Str), vs = [.str z] ∧ z.length ≤ 1000 ∧ (∀ n g r H', Reads z n g → Same H H' → H r = none → H' r = some (.lst ((tab n g).map V.int)) → Q (.ref r) H') ∧
  ((∀ n g, ¬ Reads z n g) → ∀ H', Same H H' → E (.ref CN) none H')
theorem ok_arcs_of {CNotRead : Addr} (F : FunD K "arcs_of" "arcs_of" s_arcs_of dV f fd) (c_is_length : Fn P w K mg base CX0 "is_length" ["bridges"] [] 1 sp_is_length) (c_join_bridges : Fn P w K mg base CX0 "join_bridges" ["arcs", "here", "there"] [] 1 sp_join_bridges) (mlen : mg "len" = none) (menumerate : mg "enumerate" = none) {tM : Tok} (mMOST_ARCS : mg "MOST_ARCS" = some (.int 20 tM)) (mNotRead : mg "NotRead" = some (.ref CNotRead)) (xNotRead : PySem.W.excIn K CNotRead veMro "ValueError.__new__" = true) : FnOk P w K mg base (CXE P w) 2 f fd ["word"] (sp_arcs_of CNotRead) := by
  refine F.okE (k := 1) sc_arcs_of (fun vs H Q E h => ?_) (fun cdv A outer s H vs Q E hr h => ?_)
  · obtain ⟨_, rfl, _⟩ := h; rfl
  obtain ⟨z, rfl, hz, q, qe⟩ := h
  have nd := sc_arcs_of.nd
  refine ⟨_, (pss_cons (ps_if (pt_not (pt_val (pe_fn c_is_length hr (by decide) rfl (pa_cons (pe_callB call_len_str rfl mlen PySem.boot_len (pa_cons (pv 0) pa_nil)) pa_nil)))) (pss_one (ps_raise (C := CNotRead) rfl rfl mNotRead xNotRead throws (pa_cons (pe_fstr (pj_cons pe_str (pj_cons (pe_fval (pe_glob (v := .int 20) rfl mMOST_ARCS ⟨_, rfl⟩)) pj_nil))) pa_nil))) pss_nil)
  (pss_cons (ps_comp (i := 1) nd rfl rfl rfl (compOk (N' := ["sign"]) (js := [none]) (N := ["word", "arcs", "waiting", "here", "sign"]) (sc := defScope s_arcs_of) rfl rfl rfl (by decide +kernel) (by decide +kernel) (by decide +kernel) rfl (by decide +kernel)) rfl (pi_str (pv 0)) (fun _ _ _ _ _ => (pg_name (i := 0) (show [("sign" : PySem.Str)].Nodup by decide +kernel) rfl (Or.inl rfl))) (fun _ _ _ _ _ => pf_nil) (fun _ _ _ _ _ => pe_int))
  (pss_cons (ps_set (i := 2) nd rfl (Or.inl rfl) (pe_lst pa_nil))
  (pss_cons (ps_for passesOwnE rfl (pi_enumS rfl menumerate (pa_cons (pv 0) pa_nil)) (pg_tup rfl (pgs_cons (pg_name (i := 3) nd rfl (Or.inl rfl)) (pgs_cons (pg_name (i := 4) nd rfl (Or.inl rfl)) pgs_nil))) (pss_one (ps_if (pt_cmpR op_eq (pv 4) pe_str (nomark _)) (pss_one (ps_expr (pe_bm PySem.F.plainAttrs_list PySem.F.slot_list_append PySem.F.type_list_append mt_append (pv 2) (pa_cons (pv 3) pa_nil)))) (pss_one (ps_if (PW.pt (pw_and (pt_cmpR op_eq (pv 4) pe_str (nomark _)) (pw_and1 (pt_cmpR op_gt (pe_callB call_len_seq rfl mlen PySem.boot_len (pa_cons (pv 2) pa_nil)) pe_int (nomark _))))) (pss_one (ps_expr (pe_fn c_join_bridges hr (by decide) rfl (pa_cons (pv 1) (pa_cons (pe_bm0 PySem.F.plainAttrs_list PySem.F.slot_list_pop PySem.F.type_list_pop mt_pop (pv 2)) (pa_cons (pv 3) pa_nil)))))) (pss_one (ps_raise (C := CNotRead) rfl rfl mNotRead xNotRead throws (pa_cons (pe_fstr (pj_cons pe_str (pj_cons (pe_fval (pv 3)) (pj_cons pe_str pj_nil)))) pa_nil))))))))
  (pss_cons (ps_if (pt_cmpR op_gt (pe_callB call_len_seq rfl mlen PySem.boot_len (pa_cons (pv 2) pa_nil)) pe_int (nomark _)) (pss_one (ps_raise (C := CNotRead) rfl rfl mNotRead xNotRead throws (pa_cons pe_str pa_nil))) pss_nil)
  (pss_one (ps_ret (pv 1)))))))), ?_⟩
  have hsz : z.cps.size = z.length := rfl
  (repeat (first | refine ⟨_, rfl, ?_⟩ | refine ⟨_, _, rfl, rfl, ?_⟩ | refine ⟨rfl, ?_⟩ | refine ⟨_, _, rfl, .inl (by assumption), ?_⟩ | refine ⟨Or.inl ⟨by decide, by decide⟩, ?_⟩ | refine ⟨(by show (0 : Int) < _; decide), ?_⟩ | refine ⟨⟨by decide, by decide⟩, ?_⟩))
  refine ⟨small60 (by omega), ?_⟩
  (repeat (first | refine ⟨_, rfl, ?_⟩ | refine ⟨_, _, rfl, rfl, ?_⟩ | refine ⟨rfl, ?_⟩ | refine ⟨_, _, rfl, .inl (by assumption), ?_⟩ | refine ⟨Or.inl ⟨by decide, by decide⟩, ?_⟩ | refine ⟨(by show (0 : Int) < _; decide), ?_⟩ | refine ⟨⟨by decide, by decide⟩, ?_⟩))
  cases eL : isLenM (z.length : Int) with
  | false =>
    refine iteT ?_
    refine ⟨_, rfl, by decide, ?_⟩
    refine ⟨.inl ⟨_, rfl, by decide⟩, fun y hy => ⟨_, rfl, hy, fun y2 => ?_⟩⟩
    exact ⟨(by show 1 ≤ sizeLine; decide), qe (no_len eL) H (Same.refl H)⟩
  | true =>
  refine iteF ?_
  have hL := eL
  unfold isLenM at hL
  simp at hL
  (repeat (first | refine ⟨_, rfl, ?_⟩ | refine ⟨_, _, rfl, rfl, ?_⟩ | refine ⟨rfl, ?_⟩ | refine ⟨_, _, rfl, .inl (by assumption), ?_⟩ | refine ⟨Or.inl ⟨by decide, by decide⟩, ?_⟩ | refine ⟨(by show (0 : Int) < _; decide), ?_⟩ | refine ⟨⟨by decide, by decide⟩, ?_⟩))
  intro l hl
  refine comp_all (J := Its z) z.length (fun _ => .int 0) (fun σ => ∃ u, σ = [u]) (small60 (by omega)) ⟨_, rfl⟩ hl (fun i H' hi _ => by show i < z.cps.size; omega) (fun H' _ => rfl) ?_ ?_
  · rintro i x σ' H' H2 k hi ⟨u, rfl⟩ S' ⟨rfl, c, hc, rfl⟩ hk
    exact hk _ _ _ ⟨_, rfl⟩ rfl (Same.refl _)
  intro H1 S1 hl1
  have e0 : (List.range z.length).map (fun _ => V.int 0) = (tab z.length (fun _ => 0)).map V.int := by
    rw [← tab_zero, List.map_replicate]
    exact List.eq_replicate_iff.mpr ⟨by simp, by simp⟩
  rw [e0] at hl1
  refine ⟨by decide, fun p hp => ?_⟩
  have S2 : Same H (upd H1 p (.lst [])) := S1.trans (same_upd_new hp _)
  have hp' : H p = none := S1.free hp
  have npl : l ≠ p := ne_of_none hl1 hp
  (repeat (first | refine ⟨_, rfl, ?_⟩ | refine ⟨_, _, rfl, rfl, ?_⟩ | refine ⟨rfl, ?_⟩ | refine ⟨_, _, rfl, .inl (by assumption), ?_⟩ | refine ⟨Or.inl ⟨by decide, by decide⟩, ?_⟩ | refine ⟨(by show (0 : Int) < _; decide), ?_⟩ | refine ⟨⟨by decide, by decide⟩, ?_⟩))
  refine for_enumS (fun i σ H' => ∃ f S, RdInv z i f S ∧ Same H H' ∧ H' l = some (.lst ((tab z.length f).map V.int)) ∧ H' p = some (.lst (S.map fun j : Nat => V.int (j : Int))) ∧ ∃ u v, σ = [some (.str z), some (.ref l), some (.ref p), u, v]) ?_ ?_ ?_
  · exact ⟨_, [], RdInv.start _ _, S2, by rw [upd_ne npl]; exact hl1, upd_same, _, _, rfl⟩
  · rintro i c σ H' r hc ⟨f, S, R, S3, hf, hw, u, v, rfl⟩ hr'
    have hi : i < z.length := (Array.getElem?_eq_some_iff.mp hc).1
    have S4 : Same H' (upd H' r (.tup [.int i, .str ⟨#[c]⟩])) := same_upd_new hr' _
    have hf' := S4 _ _ hf
    have hw' := S4 _ _ hw
    have hwS : SqL K (upd H' r (.tup [.int i, .str ⟨#[c]⟩])) p (S.map fun j : Nat => V.int (j : Int)) := SqL.of hw'
    have hol := R.len
    have hlS : (S.map fun j : Nat => V.int (j : Int)).length = S.length := List.length_map _
    refine ⟨r, _, rfl, SqT.of upd_same, rfl, _, _, rfl, _, _, rfl, rfl, ?_⟩
    (repeat (first | refine ⟨_, rfl, ?_⟩ | refine ⟨_, _, rfl, rfl, ?_⟩ | refine ⟨rfl, ?_⟩ | refine ⟨_, _, rfl, .inl (by assumption), ?_⟩ | refine ⟨Or.inl ⟨by decide, by decide⟩, ?_⟩ | refine ⟨(by show (0 : Int) < _; decide), ?_⟩ | refine ⟨⟨by decide, by decide⟩, ?_⟩))
    refine ite2 (fun y => ?_) (fun y => ?_)
    · have ec : c = 40 := one_sign y
      subst ec
      (repeat (first | refine ⟨_, rfl, ?_⟩ | refine ⟨_, _, rfl, rfl, ?_⟩ | refine ⟨rfl, ?_⟩ | refine ⟨_, _, rfl, .inl (by assumption), ?_⟩ | refine ⟨Or.inl ⟨by decide, by decide⟩, ?_⟩ | refine ⟨(by show (0 : Int) < _; decide), ?_⟩ | refine ⟨⟨by decide, by decide⟩, ?_⟩))
      refine ⟨.inl ⟨rfl, _, hwS⟩, ?_⟩
      (repeat (first | refine ⟨_, rfl, ?_⟩ | refine ⟨_, _, rfl, rfl, ?_⟩ | refine ⟨rfl, ?_⟩ | refine ⟨_, _, rfl, .inl (by assumption), ?_⟩ | refine ⟨Or.inl ⟨by decide, by decide⟩, ?_⟩ | refine ⟨(by show (0 : Int) < _; decide), ?_⟩ | refine ⟨⟨by decide, by decide⟩, ?_⟩))
      refine ⟨p, _, _, rfl, rfl, hw', by rw [hlS]; exact small1000 (by omega), ?_⟩
      refine ⟨f, S ++ [i], R.push hc, (S3.trans S4).upd hp' _, by rw [upd_ne npl, hf'], ?_, _, _, rfl⟩
      rw [upd_same, List.map_append]
      rfl
    · have nc : c ≠ 40 := fun e => y (by subst e; decide +kernel)
      (repeat (first | refine ⟨_, rfl, ?_⟩ | refine ⟨_, _, rfl, rfl, ?_⟩ | refine ⟨rfl, ?_⟩ | refine ⟨_, _, rfl, .inl (by assumption), ?_⟩ | refine ⟨Or.inl ⟨by decide, by decide⟩, ?_⟩ | refine ⟨(by show (0 : Int) < _; decide), ?_⟩ | refine ⟨⟨by decide, by decide⟩, ?_⟩))
      refine ite2 (fun y2 => ?_) (fun y2 => ?_)
      · have ec : c = 41 := one_sign y2
        subst ec
        (repeat (first | refine ⟨_, rfl, ?_⟩ | refine ⟨_, _, rfl, rfl, ?_⟩ | refine ⟨rfl, ?_⟩ | refine ⟨_, _, rfl, .inl (by assumption), ?_⟩ | refine ⟨Or.inl ⟨by decide, by decide⟩, ?_⟩ | refine ⟨(by show (0 : Int) < _; decide), ?_⟩ | refine ⟨⟨by decide, by decide⟩, ?_⟩))
        rw [hlS]
        refine ite2 (fun y3 => ?_) (fun y3 => ?_)
        · have hp0 : 0 < S.length := by have := of_decide_eq_true y3; omega
          obtain ⟨S', t, eS⟩ := ex_last hp0
          subst eS
          have tk : t < i := R.run.lt t (by simp)
          (repeat (first | refine ⟨_, rfl, ?_⟩ | refine ⟨_, _, rfl, rfl, ?_⟩ | refine ⟨rfl, ?_⟩ | refine ⟨_, _, rfl, .inl (by assumption), ?_⟩ | refine ⟨Or.inl ⟨by decide, by decide⟩, ?_⟩ | refine ⟨(by show (0 : Int) < _; decide), ?_⟩ | refine ⟨⟨by decide, by decide⟩, ?_⟩))
          refine ⟨.inl ⟨rfl, _, hwS⟩, ?_⟩
          refine ⟨p, _, .int t, rfl, rfl, hw', by simp, ?_⟩
          (repeat (first | refine ⟨_, rfl, ?_⟩ | refine ⟨_, _, rfl, rfl, ?_⟩ | refine ⟨rfl, ?_⟩ | refine ⟨_, _, rfl, .inl (by assumption), ?_⟩ | refine ⟨Or.inl ⟨by decide, by decide⟩, ?_⟩ | refine ⟨(by show (0 : Int) < _; decide), ?_⟩ | refine ⟨⟨by decide, by decide⟩, ?_⟩))
          refine ⟨l, _, t, i, rfl, (by rw [upd_ne npl]; exact hf'), by rw [List.length_map, tab_length]; omega, by rw [List.length_map, tab_length]; omega, ?_⟩
          refine ⟨put (put f i t) t i, S', R.pop hc, (((S3.trans S4).upd hp' _).upd hl _).upd hl _, ?_, ?_, _, _, rfl⟩
          · rw [upd_same, ← put_comm f (show t ≠ i by omega), ← tab_set (show i < z.length by omega), ← tab_set (show t < z.length by omega), List.map_set, List.map_set]
          · rw [upd_ne (Ne.symm npl), upd_ne (Ne.symm npl), upd_same, List.map_append, List.map_cons, List.map_nil, List.dropLast_concat]
        · have hS0 : S = [] := List.eq_nil_of_length_eq_zero (by
            have : ¬ (0 : Int) < S.length := fun z => y3 (decide_eq_true z)
            omega)
          refine ⟨_, rfl, by decide, ?_⟩
          refine ⟨_, rfl, .inl ⟨_, rfl, by exact small_log (by omega)⟩, fun y hy => ⟨_, rfl, hy, ⟨_, rfl, by decide, fun y2 => ?_⟩⟩⟩
          exact ⟨(by show 1 ≤ sizeLine; decide), qe (R.bad hc nc (.inr hS0)) _ (S3.trans S4)⟩
      · have nc2 : c ≠ 41 := fun e => y2 (by subst e; decide +kernel)
        (try refine iteF ?_)
        refine ⟨_, rfl, by decide, ?_⟩
        refine ⟨_, rfl, .inl ⟨_, rfl, by exact small_log (by omega)⟩, fun y hy => ⟨_, rfl, hy, ⟨_, rfl, by decide, fun y2 => ?_⟩⟩⟩
        exact ⟨(by show 1 ≤ sizeLine; decide), qe (R.bad hc nc (.inl nc2)) _ (S3.trans S4)⟩
  · rintro σ H' ⟨f, S, R, S3, hf, hw, u, v, rfl⟩
    have hwS : SqL K H' p (S.map fun j : Nat => V.int (j : Int)) := SqL.of hw
    have hlS : (S.map fun j : Nat => V.int (j : Int)).length = S.length := List.length_map _
    (repeat (first | refine ⟨_, rfl, ?_⟩ | refine ⟨_, _, rfl, rfl, ?_⟩ | refine ⟨rfl, ?_⟩ | refine ⟨_, _, rfl, .inl (by assumption), ?_⟩ | refine ⟨Or.inl ⟨by decide, by decide⟩, ?_⟩ | refine ⟨(by show (0 : Int) < _; decide), ?_⟩ | refine ⟨⟨by decide, by decide⟩, ?_⟩))
    rw [hlS]
    refine ite2 (fun y => ?_) (fun y => ?_)
    · have hp0 : 0 < S.length := by have := of_decide_eq_true y; omega
      refine ⟨by decide, qe (R.opn fun e => ?_) H' S3⟩
      rw [e] at hp0
      exact absurd hp0 (Nat.lt_irrefl _)
    · have hS0 : S = [] := List.eq_nil_of_length_eq_zero (by
        have : ¬ (0 : Int) < S.length := fun z => y (decide_eq_true z)
        omega)
      subst hS0
      (repeat (first | refine ⟨_, rfl, ?_⟩ | refine ⟨_, _, rfl, rfl, ?_⟩ | refine ⟨rfl, ?_⟩ | refine ⟨_, _, rfl, .inl (by assumption), ?_⟩ | refine ⟨Or.inl ⟨by decide, by decide⟩, ?_⟩ | refine ⟨(by show (0 : Int) < _; decide), ?_⟩ | refine ⟨⟨by decide, by decide⟩, ?_⟩))
      exact q _ _ l H' (R.done (by omega) (by omega)) S3 hl hf

def sp_turned (K : PySem.W.Frag) (CA : Addr) : Sp := fun vs H _ E => ∃ (a : Addr) (xs : List Int) (b : Int), vs = [.ref a, .int b] ∧ SqL K H a (xs.map V.int) ∧ xs.length ≤ 1000 ∧ isArcsM xs = false ∧ ∀ H', Same H H' → E (.ref CA) none H'
theorem ok_turned {CNoArcs : Addr} (F : FunD K "turned" "turned" s_turned dV f fd) (c_refuse_no_arcs : Fn P w K mg base (CXE P w) "refuse_no_arcs" ["some", "called"] [.str "the list"] 4 (sp_refuse_no_arcs K CNoArcs)) : FnOk P w K mg base (CXE P w) 5 f fd ["arcs", "by"] (sp_turned K CNoArcs) := by
  refine F.okE (k := 4) sc_turned (fun vs H Q E h => ?_) (fun cdv A outer s H vs Q E hr h => ?_)
  · obtain ⟨_, _, _, rfl, _⟩ := h; rfl
  obtain ⟨a, xs, b, rfl, hS, hz, hb, qe⟩ := h
  have nd := sc_turned.nd
  refine ⟨_, (pss_cons (ps_expr (pe_fnX c_refuse_no_arcs hr (by decide) rfl passesE (pa_cons (pv 0) pa_nil)))
  pss_never), ?_⟩
  (repeat (first | refine ⟨_, rfl, ?_⟩ | refine ⟨_, _, rfl, rfl, ?_⟩ | refine ⟨rfl, ?_⟩ | refine ⟨_, _, rfl, .inl (by assumption), ?_⟩ | refine ⟨Or.inl ⟨by decide, by decide⟩, ?_⟩ | refine ⟨(by show (0 : Int) < _; decide), ?_⟩ | refine ⟨⟨by decide, by decide⟩, ?_⟩))
  exact ⟨a, xs, _, rfl, hS, hz, by decide, fun e => absurd e (by rw [hb]; decide), fun _ => qe⟩

def sp_mirrored := RefOne
theorem ok_mirrored {CNoArcs : Addr} (F : FunD K "mirrored" "mirrored" s_mirrored dV f fd) (c_refuse_no_arcs : Fn P w K mg base (CXE P w) "refuse_no_arcs" ["some", "called"] [.str "the list"] 4 (sp_refuse_no_arcs K CNoArcs)) : FnOk P w K mg base (CXE P w) 5 f fd ["arcs"] (sp_mirrored K CNoArcs) := by
  refine F.okE (k := 4) sc_mirrored (fun vs H Q E h => ?_) (fun cdv A outer s H vs Q E hr h => ?_)
  · obtain ⟨_, _, rfl, _⟩ := h; rfl
  obtain ⟨a, xs, rfl, hS, hz, hb, qe⟩ := h
  have nd := sc_mirrored.nd
  refine ⟨_, (pss_cons (ps_expr (pe_fnX c_refuse_no_arcs hr (by decide) rfl passesE (pa_cons (pv 0) pa_nil)))
  pss_never), ?_⟩
  (repeat (first | refine ⟨_, rfl, ?_⟩ | refine ⟨_, _, rfl, rfl, ?_⟩ | refine ⟨rfl, ?_⟩ | refine ⟨_, _, rfl, .inl (by assumption), ?_⟩ | refine ⟨Or.inl ⟨by decide, by decide⟩, ?_⟩ | refine ⟨(by show (0 : Int) < _; decide), ?_⟩ | refine ⟨⟨by decide, by decide⟩, ?_⟩))
  exact ⟨a, xs, _, rfl, hS, hz, by decide, fun e => absurd e (by rw [hb]; decide), fun _ => qe⟩

def sp_beside (K : PySem.W.Frag) (CA CT : Addr) : Sp := fun vs H _ E => ∃ (a b : Addr) (xs ys : List Int), vs = [.ref a, .ref b] ∧ SqL K H a (xs.map V.int) ∧ SqL K H b (ys.map V.int) ∧ xs.length ≤ 1000 ∧ ys.length ≤ 1000 ∧ ((isArcsM xs && isArcsM ys) = true → 40 < xs.length + ys.length) ∧ ∀ H', Same H H' → E (.ref (if (isArcsM xs && isArcsM ys) = true then CT else CA)) none H'
theorem ok_beside {CNoArcs CTooMany : Addr} (F : FunD K "beside" "beside" s_beside dV f fd) (c_refuse_no_rows : Fn P w K mg base (CXE P w) "refuse_no_rows" ["one", "other"] [] 5 (sp_refuse_no_rows K CNoArcs)) (c_refuse_too_many : Fn P w K mg base (CXE P w) "refuse_too_many" ["bridges"] [] 1 (sp_refuse_too_many CTooMany)) (mlen : mg "len" = none) : FnOk P w K mg base (CXE P w) 6 f fd ["one", "other"] (sp_beside K CNoArcs CTooMany) := by
  refine F.okE (k := 5) sc_beside (fun vs H Q E h => ?_) (fun cdv A outer s H vs Q E hr h => ?_)
  · obtain ⟨_, _, _, _, rfl, _⟩ := h; rfl
  obtain ⟨a, b, xs, ys, rfl, hA, hB, hx, hy, hd, qe⟩ := h
  have nd := sc_beside.nd
  refine ⟨_, (pss_cons (ps_expr (pe_fnX c_refuse_no_rows hr (by decide) rfl passesE (pa_cons (pv 0) (pa_cons (pv 1) pa_nil))))
  (pss_cons (ps_expr (pe_fnX c_refuse_too_many hr (by decide) rfl passesE (pa_cons (pe_op op_add (pe_callB call_len_seq rfl mlen PySem.boot_len (pa_cons (pv 0) pa_nil)) (pe_callB call_len_seq rfl mlen PySem.boot_len (pa_cons (pv 1) pa_nil))) pa_nil)))
  pss_never)), ?_⟩
  (repeat (first | refine ⟨_, rfl, ?_⟩ | refine ⟨_, _, rfl, rfl, ?_⟩ | refine ⟨rfl, ?_⟩ | refine ⟨_, _, rfl, .inl (by assumption), ?_⟩ | refine ⟨Or.inl ⟨by decide, by decide⟩, ?_⟩ | refine ⟨(by show (0 : Int) < _; decide), ?_⟩ | refine ⟨⟨by decide, by decide⟩, ?_⟩))
  refine ⟨a, b, xs, ys, rfl, hA, hB, hx, hy, fun e H1 S1 => ?_, fun e H1 S1 => by have := qe H1 S1; rw [if_neg (by rw [e]; decide)] at this; exact this⟩
  have hA1 := S1.seq hA
  have hB1 := S1.seq hB
  (repeat (first | refine ⟨_, rfl, ?_⟩ | refine ⟨_, _, rfl, rfl, ?_⟩ | refine ⟨rfl, ?_⟩ | refine ⟨_, _, rfl, .inl (by assumption), ?_⟩ | refine ⟨Or.inl ⟨by decide, by decide⟩, ?_⟩ | refine ⟨(by show (0 : Int) < _; decide), ?_⟩ | refine ⟨⟨by decide, by decide⟩, ?_⟩))
  refine ⟨by rw [List.length_map, List.length_map]; have := hd e; omega, ?_⟩
  have := qe H1 S1
  rw [if_pos e] at this
  exact this

def sp_covered (K : PySem.W.Frag) (CA CT : Addr) : Sp := fun vs H _ E => ∃ (a : Addr) (xs : List Int), vs = [.ref a] ∧ SqL K H a (xs.map V.int) ∧ xs.length ≤ 1000 ∧ (isArcsM xs = true → 40 < xs.length + 2) ∧ ∀ H', Same H H' → E (.ref (if isArcsM xs = true then CT else CA)) none H'
theorem ok_covered {CNoArcs CTooMany : Addr} (F : FunD K "covered" "covered" s_covered dV f fd) (c_refuse_no_arcs : Fn P w K mg base (CXE P w) "refuse_no_arcs" ["some", "called"] [.str "the list"] 4 (sp_refuse_no_arcs K CNoArcs)) (c_refuse_too_many : Fn P w K mg base (CXE P w) "refuse_too_many" ["bridges"] [] 1 (sp_refuse_too_many CTooMany)) (mlen : mg "len" = none) : FnOk P w K mg base (CXE P w) 5 f fd ["arcs"] (sp_covered K CNoArcs CTooMany) := by
  refine F.okE (k := 4) sc_covered (fun vs H Q E h => ?_) (fun cdv A outer s H vs Q E hr h => ?_)
  · obtain ⟨_, _, rfl, _⟩ := h; rfl
  obtain ⟨a, xs, rfl, hS, hz, hb, qe⟩ := h
  have nd := sc_covered.nd
  refine ⟨_, (pss_cons (ps_expr (pe_fnX c_refuse_no_arcs hr (by decide) rfl passesE (pa_cons (pv 0) pa_nil)))
  (pss_cons (ps_expr (pe_fnX c_refuse_too_many hr (by decide) rfl passesE (pa_cons (pe_op op_add (pe_callB call_len_seq rfl mlen PySem.boot_len (pa_cons (pv 0) pa_nil)) pe_int) pa_nil)))
  pss_never)), ?_⟩
  (repeat (first | refine ⟨_, rfl, ?_⟩ | refine ⟨_, _, rfl, rfl, ?_⟩ | refine ⟨rfl, ?_⟩ | refine ⟨_, _, rfl, .inl (by assumption), ?_⟩ | refine ⟨Or.inl ⟨by decide, by decide⟩, ?_⟩ | refine ⟨(by show (0 : Int) < _; decide), ?_⟩ | refine ⟨⟨by decide, by decide⟩, ?_⟩))
  refine ⟨a, xs, _, rfl, hS, hz, by decide, fun e H1 S1 => ?_, fun e H1 S1 => by have := qe H1 S1; rw [if_neg (by rw [e]; decide)] at this; exact this⟩
  have hS1 := S1.seq hS
  (repeat (first | refine ⟨_, rfl, ?_⟩ | refine ⟨_, _, rfl, rfl, ?_⟩ | refine ⟨rfl, ?_⟩ | refine ⟨_, _, rfl, .inl (by assumption), ?_⟩ | refine ⟨Or.inl ⟨by decide, by decide⟩, ?_⟩ | refine ⟨(by show (0 : Int) < _; decide), ?_⟩ | refine ⟨⟨by decide, by decide⟩, ?_⟩))
  refine ⟨by rw [List.length_map]; have := hb e; omega, ?_⟩
  have := qe H1 S1
  rw [if_pos e] at this
  exact this

theorem log_small {i : Int} (h : i.natAbs ≤ 1000) : i.natAbs.log2 < 1920 := Nat.lt_of_le_of_lt (Nat.log2_le_self _) (by omega)
def sp_refuse_no_number (CN : Addr) : Sp := fun vs H Q E => ∃ (n lo hi : Int) (c : Str), vs = [.int n, .int lo, .int hi, .str c] ∧ lo.natAbs ≤ 1000 ∧ hi.natAbs ≤ 1000 ∧ c.length ≤ 1000 ∧ (lo ≤ n ∧ n ≤ hi → Q .non H) ∧ (¬ (lo ≤ n ∧ n ≤ hi) → E (.ref CN) none H)
theorem ok_refuse_no_number {CNoNumber : Addr} (F : FunD K "refuse_no_number" "refuse_no_number" s_refuse_no_number dV f fd) (mNoNumber : mg "NoNumber" = some (.ref CNoNumber)) (xNoNumber : PySem.W.excIn K CNoNumber veMro "ValueError.__new__" = true) : FnOk P w K mg base (CXE P w) 1 f fd ["number", "least", "most", "called"] (sp_refuse_no_number CNoNumber) := by
  refine F.okE (k := 0) sc_refuse_no_number (fun vs H Q E h => ?_) (fun cdv A outer s H vs Q E hr h => ?_)
  · obtain ⟨_, _, _, _, rfl, _⟩ := h; rfl
  obtain ⟨n, lo, hi, c, rfl, h1, h2, hc, q, qe⟩ := h
  have nd := sc_refuse_no_number.nd
  refine ⟨_, (pss_one (ps_if (PW.pt (pw_or (pt_cmpR op_lt (pv 0) (pv 1) (nomark _)) (pw_or1 (pt_cmpR op_gt (pv 0) (pv 2) (nomark _))))) (pss_one (ps_raise (C := CNoNumber) rfl rfl mNoNumber xNoNumber throws (pa_cons (pe_fstr (pj_cons (pe_fval (pv 3)) (pj_cons pe_str (pj_cons (pe_fval (pv 1)) (pj_cons pe_str (pj_cons (pe_fval (pv 2)) pj_nil)))))) pa_nil))) pss_nil)), ?_⟩
  (repeat (first | refine ⟨_, rfl, ?_⟩ | refine ⟨_, _, rfl, rfl, ?_⟩ | refine ⟨rfl, ?_⟩ | refine ⟨_, _, rfl, .inl (by assumption), ?_⟩ | refine ⟨Or.inl ⟨by decide, by decide⟩, ?_⟩ | refine ⟨(by show (0 : Int) < _; decide), ?_⟩ | refine ⟨⟨by decide, by decide⟩, ?_⟩))
  refine ite2 (fun yc => ?_) (fun y => ?_)
  · refine ⟨_, rfl, .inr ⟨c, rfl, by omega⟩, fun y hy => ⟨_, rfl, hy, ⟨_, rfl, by decide, ⟨_, rfl, .inl ⟨_, rfl, log_small h1⟩, fun y hy => ⟨_, rfl, hy, ⟨_, rfl, by decide, ⟨_, rfl, .inl ⟨_, rfl, log_small h2⟩, fun y hy => ⟨_, rfl, hy, fun y2 => ?_⟩⟩⟩⟩⟩⟩⟩⟩
    exact ⟨(by show 1 ≤ sizeLine; decide), qe (by have := of_decide_eq_true yc; omega)⟩
  · have y' : ¬ n < lo := fun z => y (decide_eq_true z)
    (repeat (first | refine ⟨_, rfl, ?_⟩ | refine ⟨_, _, rfl, rfl, ?_⟩ | refine ⟨rfl, ?_⟩ | refine ⟨_, _, rfl, .inl (by assumption), ?_⟩ | refine ⟨Or.inl ⟨by decide, by decide⟩, ?_⟩ | refine ⟨(by show (0 : Int) < _; decide), ?_⟩ | refine ⟨⟨by decide, by decide⟩, ?_⟩))
    refine ite2 (fun yc => ?_) (fun y2 => ?_)
    · refine ⟨_, rfl, .inr ⟨c, rfl, by omega⟩, fun y hy => ⟨_, rfl, hy, ⟨_, rfl, by decide, ⟨_, rfl, .inl ⟨_, rfl, log_small h1⟩, fun y hy => ⟨_, rfl, hy, ⟨_, rfl, by decide, ⟨_, rfl, .inl ⟨_, rfl, log_small h2⟩, fun y hy => ⟨_, rfl, hy, fun y2 => ?_⟩⟩⟩⟩⟩⟩⟩⟩
      exact ⟨(by show 1 ≤ sizeLine; decide), qe (by have := of_decide_eq_true yc; omega)⟩
    · have y2' : ¬ hi < n := fun z => y2 (decide_eq_true z)
      exact q ⟨by omega, by omega⟩

def sp_refuse_no_size (CN : Addr) : Sp := fun vs H Q E => ∃ (n : Int), vs = [.int n] ∧ (1 ≤ n ∧ n ≤ 20 → Q .non H) ∧ (¬ (1 ≤ n ∧ n ≤ 20) → E (.ref CN) none H)
theorem ok_refuse_no_size {CNoNumber : Addr} (F : FunD K "refuse_no_size" "refuse_no_size" s_refuse_no_size dV f fd) (c_refuse_no_number : Fn P w K mg base (CXE P w) "refuse_no_number" ["number", "least", "most", "called"] [] 1 (sp_refuse_no_number CNoNumber)) {tM : Tok} (mMOST_ARCS : mg "MOST_ARCS" = some (.int 20 tM)) : FnOk P w K mg base (CXE P w) 2 f fd ["size"] (sp_refuse_no_size CNoNumber) := by
  refine F.okE (k := 1) sc_refuse_no_size (fun vs H Q E h => ?_) (fun cdv A outer s H vs Q E hr h => ?_)
  · obtain ⟨_, rfl, _⟩ := h; rfl
  obtain ⟨n, rfl, q, qe⟩ := h
  have nd := sc_refuse_no_size.nd
  refine ⟨_, (pss_one (ps_expr (pe_fnX c_refuse_no_number hr (by decide) rfl passesE (pa_cons (pv 0) (pa_cons pe_int (pa_cons (pe_glob (v := .int 20) rfl mMOST_ARCS ⟨_, rfl⟩) (pa_cons pe_str pa_nil))))))), ?_⟩
  (repeat (first | refine ⟨_, rfl, ?_⟩ | refine ⟨_, _, rfl, rfl, ?_⟩ | refine ⟨rfl, ?_⟩ | refine ⟨_, _, rfl, .inl (by assumption), ?_⟩ | refine ⟨Or.inl ⟨by decide, by decide⟩, ?_⟩ | refine ⟨(by show (0 : Int) < _; decide), ?_⟩ | refine ⟨⟨by decide, by decide⟩, ?_⟩))
  exact ⟨n, 1, 20, _, rfl, by decide, by decide, by decide, q, qe⟩

def sp_all_ways : Sp := fun vs H Q _ => ∃ (m : Nat), vs = [.int m] ∧ m ≤ 20 ∧ ∀ (r : Addr) (H' : Hp), Same H H' → WaysAt H' r m → Q (.ref r) H'
theorem ok_all_ways (F : FunD K "all_ways" "all_ways" s_all_ways dV f fd) (mrange : mg "range" = none) : FnOk P w K mg base CX0 1 f fd ["size"] sp_all_ways := by
  refine F.ok (k := 0) sc_all_ways (fun vs H Q E h => ?_) (fun cdv A outer s H vs Q E hr h => ?_)
  · obtain ⟨_, rfl, _⟩ := h; rfl
  obtain ⟨m, rfl, h2, q⟩ := h
  have nd := sc_all_ways.nd
  refine ⟨_, (pss_cons (ps_set (i := 1) nd rfl (Or.inl rfl) (pe_lst (pa_cons (pe_comp (compOk (N' := ["closing"]) (js := [none]) (N := ["size", "ways", "opening", "row", "closing"]) (sc := defScope s_all_ways) rfl rfl rfl (by decide +kernel) (by decide +kernel) (by decide +kernel) rfl (by decide +kernel)) rfl (pi_range1 rfl mrange (pa_cons (pe_op op_add (pv 0) pe_int) pa_nil)) (fun _ _ _ _ _ => (pg_name (i := 0) (show [("closing" : PySem.Str)].Nodup by decide +kernel) rfl (Or.inl rfl))) (fun _ _ _ _ _ => pf_nil) (fun _ _ _ _ _ => pe_int)) pa_nil)))
  (pss_cons (ps_for PassesOwn.never rfl (pi_range2 rfl mrange (pa_cons pe_int (pa_cons (pe_op op_add (pv 0) pe_int) pa_nil))) (pg_name (i := 2) nd rfl (Or.inl rfl)) (pss_cons (ps_comp (i := 3) nd rfl rfl rfl (compOk (N' := ["closing"]) (js := [none]) (N := ["size", "ways", "opening", "row", "closing"]) (sc := defScope s_all_ways) rfl rfl rfl (by decide +kernel) (by decide +kernel) (by decide +kernel) rfl (by decide +kernel)) rfl (pi_range1 rfl mrange (pa_cons (pv 2) pa_nil)) (fun _ _ _ _ _ => (pg_name (i := 0) (show [("closing" : PySem.Str)].Nodup by decide +kernel) rfl (Or.inl rfl))) (fun _ _ _ _ _ => pf_nil) (fun _ _ _ _ _ => pe_int))
  (pss_cons (ps_for PassesOwn.never rfl (pi_range2 rfl mrange (pa_cons (pv 2) (pa_cons (pe_op op_add (pv 0) pe_int) pa_nil))) (pg_name (i := 4) nd rfl (Or.inl rfl)) (pss_one (ps_expr (pe_bm PySem.F.plainAttrs_list PySem.F.slot_list_append PySem.F.type_list_append mt_append (pv 3) (pa_cons (pe_op op_add (pe_ix ix_list (pe_ix ix_list (pv 1) (pe_op op_sub (pv 2) pe_int) (fun _ _ => rfl)) (pv 4) (fun _ _ => rfl)) (pe_ix ix_list (pv 3) (pe_op op_sub (pv 4) pe_int) (fun _ _ => rfl))) pa_nil)))))
  (pss_one (ps_expr (pe_bm PySem.F.plainAttrs_list PySem.F.slot_list_append PySem.F.type_list_append mt_append (pv 1) (pa_cons (pv 3) pa_nil)))))))
  (pss_one (ps_ret (pv 1))))), ?_⟩
  have e1 : ((m : Int) + 1).toNat = m + 1 := by omega
  (repeat (first | refine ⟨_, rfl, ?_⟩ | refine ⟨_, _, rfl, rfl, ?_⟩ | refine ⟨rfl, ?_⟩ | refine ⟨_, _, rfl, .inl (by assumption), ?_⟩ | refine ⟨Or.inl ⟨by decide, by decide⟩, ?_⟩ | refine ⟨(by show (0 : Int) < _; decide), ?_⟩ | refine ⟨⟨by decide, by decide⟩, ?_⟩))
  refine ⟨by omega, by omega, fun p hp => ?_⟩
  dsimp only
  rw [e1]
  refine comp_all (m + 1) (fun i => .int (W 0 i : Nat)) (fun σ => ∃ u, σ = [u]) (small60 (by omega)) ⟨_, rfl⟩ hp (fun i H' hi _ => hi) (fun H' _ => Nat.le_refl _) ?_ ?_
  · rintro i x σ' H' H2 k hi ⟨u, rfl⟩ S' ⟨rfl, rfl⟩ hk
    exact hk _ _ _ ⟨_, rfl⟩ rfl (Same.refl _)
  intro H1 S1 e0'
  have e0 : H1 p = some (.lst ((tab (m + 1) (W 0)).map V.int)) := by
    rw [e0']
    unfold tab
    rw [List.map_map]
    rfl
  (repeat (first | refine ⟨_, rfl, ?_⟩ | refine ⟨_, _, rfl, rfl, ?_⟩ | refine ⟨rfl, ?_⟩ | refine ⟨_, _, rfl, .inl (by assumption), ?_⟩ | refine ⟨Or.inl ⟨by decide, by decide⟩, ?_⟩ | refine ⟨(by show (0 : Int) < _; decide), ?_⟩ | refine ⟨⟨by decide, by decide⟩, ?_⟩))
  refine ⟨(by show 1 ≤ sizeLine; decide), fun lw hlw => ?_⟩
  have S2 := same_upd_new hlw (.lst [.ref p])
  have zlw : H lw = none := S1.free hlw
  have npw : p ≠ lw := ne_of_none e0 hlw
  (repeat (first | refine ⟨_, rfl, ?_⟩ | refine ⟨_, _, rfl, rfl, ?_⟩ | refine ⟨rfl, ?_⟩ | refine ⟨_, _, rfl, .inl (by assumption), ?_⟩ | refine ⟨Or.inl ⟨by decide, by decide⟩, ?_⟩ | refine ⟨(by show (0 : Int) < _; decide), ?_⟩ | refine ⟨⟨by decide, by decide⟩, ?_⟩))
  refine ⟨_, _, rfl, ⟨by omega, by omega, by omega, by omega⟩, ?_⟩
  have e3 : ((m : Int) + 1 - 1).toNat = m := by omega
  rw [e3]
  refine for_range (fun i σ H' => ∃ as : List Addr, Same H H' ∧ H' lw = some (.lst (as.map V.ref)) ∧ as.length = i + 1 ∧ lw ∉ as ∧ (∀ (o : Nat) (x : Addr), as[o]? = some x → H' x = some (.lst ((tab (m + 1) (W o)).map V.int))) ∧ ∃ u v x, σ = [some (.int m), some (.ref lw), u, v, x]) ?_ ?_ ?_
  · refine ⟨[p], S1.trans S2, upd_same, rfl, by simp [Ne.symm npw], fun o x hx => ?_, _, _, _, rfl⟩
    match o, hx with
    | 0, hx => cases hx; rw [upd_ne npw]; exact e0
    | o + 1, hx => simp at hx
  · rintro i σ H3 hi ⟨as, S3, ew, la, nw, hrow, u, v, y, rfl⟩
    (repeat (first | refine ⟨_, rfl, ?_⟩ | refine ⟨_, _, rfl, rfl, ?_⟩ | refine ⟨rfl, ?_⟩ | refine ⟨_, _, rfl, .inl (by assumption), ?_⟩ | refine ⟨Or.inl ⟨by decide, by decide⟩, ?_⟩ | refine ⟨(by show (0 : Int) < _; decide), ?_⟩ | refine ⟨⟨by decide, by decide⟩, ?_⟩))
    refine ⟨by omega, by omega, fun lr hlr => ?_⟩
    have e4 : ((1 : Int) + (i : Int)).toNat = i + 1 := by omega
    dsimp only
    rw [e4]
    refine comp_all (i + 1) (fun c => .int (W (i + 1) c : Nat)) (fun σ => ∃ u, σ = [u]) (small60 (by omega)) ⟨_, rfl⟩ hlr (fun i H' hi _ => hi) (fun H' _ => Nat.le_refl _) ?_ ?_
    · rintro c x σ' H' H2 k hc ⟨u, rfl⟩ S' ⟨rfl, rfl⟩ hk
      exact hk _ _ _ ⟨_, rfl⟩ (by rw [W_low hc]; rfl) (Same.refl _)
    intro H4 S4 el'
    have el : H4 lr = some (.lst ((tab (i + 1) (W (i + 1))).map V.int)) := by
      rw [el']
      unfold tab
      rw [List.map_map]
      rfl
    have zlr : H lr = none := S3.free hlr
    have nwr : lw ≠ lr := ne_of_none ew hlr
    have nar : lr ∉ as := fun z => by
      obtain ⟨o, ho⟩ := List.getElem?_of_mem z
      have := hrow o lr ho
      rw [hlr] at this
      cases this
    (repeat (first | refine ⟨_, rfl, ?_⟩ | refine ⟨_, _, rfl, rfl, ?_⟩ | refine ⟨rfl, ?_⟩ | refine ⟨_, _, rfl, .inl (by assumption), ?_⟩ | refine ⟨Or.inl ⟨by decide, by decide⟩, ?_⟩ | refine ⟨(by show (0 : Int) < _; decide), ?_⟩ | refine ⟨⟨by decide, by decide⟩, ?_⟩))
    refine ⟨_, _, rfl, ⟨by omega, by omega, by omega, by omega⟩, ?_⟩
    have e5 : ((m : Int) + 1 - (1 + (i : Int))).toNat = m - i := by omega
    rw [e5]
    refine for_range (fun t σ H' => Same H H' ∧ H' lw = some (.lst (as.map V.ref)) ∧ H' lr = some (.lst ((tab (i + 1 + t) (W (i + 1))).map V.int)) ∧ (∀ (o : Nat) (x : Addr), as[o]? = some x → H' x = some (.lst ((tab (m + 1) (W o)).map V.int))) ∧ ∃ x, σ = [some (.int m), some (.ref lw), some (.int (1 + (i : Int))), some (.ref lr), x]) ?_ ?_ ?_
    · exact ⟨S3.trans S4, S4 _ _ ew, el, fun o x hx => S4 _ _ (hrow o x hx), _, rfl⟩
    · rintro t σ H5 ht ⟨S5, ew5, el5, hrow5, x, rfl⟩
      obtain ⟨ai, hai⟩ : ∃ ai, as[i]? = some ai := ⟨_, List.getElem?_eq_getElem (by omega)⟩
      (repeat (first | refine ⟨_, rfl, ?_⟩ | refine ⟨_, _, rfl, rfl, ?_⟩ | refine ⟨rfl, ?_⟩ | refine ⟨_, _, rfl, .inl (by assumption), ?_⟩ | refine ⟨Or.inl ⟨by decide, by decide⟩, ?_⟩ | refine ⟨(by show (0 : Int) < _; decide), ?_⟩ | refine ⟨⟨by decide, by decide⟩, ?_⟩))
      refine ⟨.inl ⟨rfl, _, SqL.of el5⟩, ?_⟩
      (repeat (first | refine ⟨_, rfl, ?_⟩ | refine ⟨_, _, rfl, rfl, ?_⟩ | refine ⟨rfl, ?_⟩ | refine ⟨_, _, rfl, .inl (by assumption), ?_⟩ | refine ⟨Or.inl ⟨by decide, by decide⟩, ?_⟩ | refine ⟨(by show (0 : Int) < _; decide), ?_⟩ | refine ⟨⟨by decide, by decide⟩, ?_⟩))
      have e6 : (1 : Int) + (i : Int) - 1 = (i : Int) := by omega
      have e7 : (1 : Int) + (i : Int) + (t : Int) = ((i + 1 + t : Nat) : Int) := by omega
      have e8 : (1 : Int) + (i : Int) + (t : Int) - 1 = ((i + t : Nat) : Int) := by omega
      refine ⟨lw, _, _, .ref ai, rfl, rfl, SqL.of ew5, (by (try dsimp only); rw [e6]; exact atI_nat (by rw [List.getElem?_map, hai]; rfl)), ?_⟩
      (repeat (first | refine ⟨_, rfl, ?_⟩ | refine ⟨_, _, rfl, rfl, ?_⟩ | refine ⟨rfl, ?_⟩ | refine ⟨_, _, rfl, .inl (by assumption), ?_⟩ | refine ⟨Or.inl ⟨by decide, by decide⟩, ?_⟩ | refine ⟨(by show (0 : Int) < _; decide), ?_⟩ | refine ⟨⟨by decide, by decide⟩, ?_⟩))
      refine ⟨ai, _, _, .int (W i (i + 1 + t) : Nat), rfl, rfl, SqL.of (hrow5 i ai hai), (by (try dsimp only); rw [e7]; exact atI_int (by omega) (by rw [Int.toNat_natCast]; exact tab_get (by omega))), ?_⟩
      (repeat (first | refine ⟨_, rfl, ?_⟩ | refine ⟨_, _, rfl, rfl, ?_⟩ | refine ⟨rfl, ?_⟩ | refine ⟨_, _, rfl, .inl (by assumption), ?_⟩ | refine ⟨Or.inl ⟨by decide, by decide⟩, ?_⟩ | refine ⟨(by show (0 : Int) < _; decide), ?_⟩ | refine ⟨⟨by decide, by decide⟩, ?_⟩))
      refine ⟨lr, _, _, .int (W (i + 1) (i + t) : Nat), rfl, rfl, SqL.of el5, (by (try dsimp only); rw [e8]; exact atI_int (by omega) (by rw [Int.toNat_natCast]; exact tab_get (by omega))), ?_⟩
      (repeat (first | refine ⟨_, rfl, ?_⟩ | refine ⟨_, _, rfl, rfl, ?_⟩ | refine ⟨rfl, ?_⟩ | refine ⟨_, _, rfl, .inl (by assumption), ?_⟩ | refine ⟨Or.inl ⟨by decide, by decide⟩, ?_⟩ | refine ⟨(by show (0 : Int) < _; decide), ?_⟩ | refine ⟨⟨by decide, by decide⟩, ?_⟩))
      refine ⟨lr, _, _, rfl, rfl, el5, by rw [List.length_map, tab_length]; exact small1000 (by omega), ?_⟩
      refine ⟨S5.upd zlr _, by rw [upd_ne nwr]; exact ew5, ?_, fun o x hx => ?_, _, rfl⟩
      · rw [upd_same]
        have es : (W i (i + 1 + t) : Nat) + (W (i + 1) (i + t) : Nat) = W (i + 1) (i + t + 1) := by
          rw [W_step, if_neg (by omega), show i + 1 + t = i + t + 1 by omega]
        have es2 : ((W i (i + 1 + t) : Nat) : Int) + ((W (i + 1) (i + t) : Nat) : Int) = ((W (i + 1) (i + t + 1) : Nat) : Int) := by omega
        dsimp only
        rw [es2, show i + 1 + (t + 1) = (i + t + 1) + 1 by omega, show i + 1 + t = i + t + 1 by omega]
        unfold tab
        rw [List.range_succ (n := i + t + 1), List.map_append, List.map_append]
        rfl
      · have : x ≠ lr := fun z => nar (z ▸ List.mem_of_getElem? hx)
        rw [upd_ne this]
        exact hrow5 o x hx
    · rintro σ H5 ⟨S5, ew5, el5, hrow5, x, rfl⟩
      rw [show i + 1 + (m - i) = m + 1 by omega] at el5
      (repeat (first | refine ⟨_, rfl, ?_⟩ | refine ⟨_, _, rfl, rfl, ?_⟩ | refine ⟨rfl, ?_⟩ | refine ⟨_, _, rfl, .inl (by assumption), ?_⟩ | refine ⟨Or.inl ⟨by decide, by decide⟩, ?_⟩ | refine ⟨(by show (0 : Int) < _; decide), ?_⟩ | refine ⟨⟨by decide, by decide⟩, ?_⟩))
      refine ⟨.inl ⟨rfl, _, SqL.of ew5⟩, ?_⟩
      (repeat (first | refine ⟨_, rfl, ?_⟩ | refine ⟨_, _, rfl, rfl, ?_⟩ | refine ⟨rfl, ?_⟩ | refine ⟨_, _, rfl, .inl (by assumption), ?_⟩ | refine ⟨Or.inl ⟨by decide, by decide⟩, ?_⟩ | refine ⟨(by show (0 : Int) < _; decide), ?_⟩ | refine ⟨⟨by decide, by decide⟩, ?_⟩))
      refine ⟨lw, _, _, rfl, rfl, ew5, by rw [List.length_map]; exact small1000 (by omega), ?_⟩
      refine ⟨as ++ [lr], S5.upd zlw _, by rw [upd_same, List.map_append]; rfl, by simp [la], by simp [nw, nwr], fun o x hx => ?_, _, _, _, rfl⟩
      by_cases c : o < as.length
      · rw [List.getElem?_append_left c] at hx
        have : x ≠ lw := fun z => nw (z ▸ List.mem_of_getElem? hx)
        rw [upd_ne this]
        exact hrow5 o x hx
      · rw [List.getElem?_append_right (by omega)] at hx
        have c0 : o = i + 1 := by
          have := (List.getElem?_eq_some_iff.mp hx).1
          simp at this
          omega
        subst c0
        rw [la, Nat.sub_self] at hx
        cases hx
        rw [upd_ne (Ne.symm nwr)]
        exact el5
  · rintro σ H3 ⟨as, S3, ew, la, nw, hrow, u, v, y, rfl⟩
    (repeat (first | refine ⟨_, rfl, ?_⟩ | refine ⟨_, _, rfl, rfl, ?_⟩ | refine ⟨rfl, ?_⟩ | refine ⟨_, _, rfl, .inl (by assumption), ?_⟩ | refine ⟨Or.inl ⟨by decide, by decide⟩, ?_⟩ | refine ⟨(by show (0 : Int) < _; decide), ?_⟩ | refine ⟨⟨by decide, by decide⟩, ?_⟩))
    exact q lw H3 S3 ⟨as, ew, la, hrow⟩

def sp_many (CN : Addr) : Sp := fun vs H Q E => ∃ (n : Int), vs = [.int n] ∧ ((n = 3 ∧ ∀ H', Same H H' → Q (.int 5) H') ∨ (¬ (1 ≤ n ∧ n ≤ 20) ∧ E (.ref CN) none H))
theorem ok_many {CNoNumber : Addr} (F : FunD K "many" "many" s_many dV f fd) (c_refuse_no_size : Fn P w K mg base (CXE P w) "refuse_no_size" ["size"] [] 2 (sp_refuse_no_size CNoNumber)) (c_all_ways : Fn P w K mg base CX0 "all_ways" ["size"] [] 1 sp_all_ways) : FnOk P w K mg base (CXE P w) 3 f fd ["size"] (sp_many CNoNumber) := by
  refine F.okE (k := 2) sc_many (fun vs H Q E h => ?_) (fun cdv A outer s H vs Q E hr h => ?_)
  · obtain ⟨_, rfl, _⟩ := h; rfl
  obtain ⟨n, rfl, h⟩ := h
  have nd := sc_many.nd
  refine ⟨_, (pss_cons (ps_expr (pe_fnX c_refuse_no_size hr (by decide) rfl passesE (pa_cons (pv 0) pa_nil)))
  (pss_one (ps_ret (pe_ix ix_list (pe_ix ix_list (pe_fn c_all_ways hr (by decide) rfl (pa_cons (pv 0) pa_nil)) (pv 0) (fun _ _ => rfl)) (pv 0) (fun _ _ => rfl))))), ?_⟩
  (repeat (first | refine ⟨_, rfl, ?_⟩ | refine ⟨_, _, rfl, rfl, ?_⟩ | refine ⟨rfl, ?_⟩ | refine ⟨_, _, rfl, .inl (by assumption), ?_⟩ | refine ⟨Or.inl ⟨by decide, by decide⟩, ?_⟩ | refine ⟨(by show (0 : Int) < _; decide), ?_⟩ | refine ⟨⟨by decide, by decide⟩, ?_⟩))
  rcases h with ⟨e, q⟩ | ⟨hn, qe⟩
  · subst e
    refine ⟨fun _ => ?_, fun h => absurd ⟨by omega, by omega⟩ h⟩
    (repeat (first | refine ⟨_, rfl, ?_⟩ | refine ⟨_, _, rfl, rfl, ?_⟩ | refine ⟨rfl, ?_⟩ | refine ⟨_, _, rfl, .inl (by assumption), ?_⟩ | refine ⟨Or.inl ⟨by decide, by decide⟩, ?_⟩ | refine ⟨(by show (0 : Int) < _; decide), ?_⟩ | refine ⟨⟨by decide, by decide⟩, ?_⟩))
    refine ⟨by decide, fun r H1 S1 hW => ?_⟩
    obtain ⟨as, hw, la, hrow⟩ : WaysAt H1 r (3 : Nat) := hW
    obtain ⟨ai, hai⟩ : ∃ ai, as[3]? = some ai := ⟨_, List.getElem?_eq_getElem (by omega)⟩
    (repeat (first | refine ⟨_, rfl, ?_⟩ | refine ⟨_, _, rfl, rfl, ?_⟩ | refine ⟨rfl, ?_⟩ | refine ⟨_, _, rfl, .inl (by assumption), ?_⟩ | refine ⟨Or.inl ⟨by decide, by decide⟩, ?_⟩ | refine ⟨(by show (0 : Int) < _; decide), ?_⟩ | refine ⟨⟨by decide, by decide⟩, ?_⟩))
    refine ⟨r, _, _, .ref ai, rfl, rfl, SqL.of hw, atI_nat (j := 3) (by rw [List.getElem?_map, hai]; rfl), ?_⟩
    (repeat (first | refine ⟨_, rfl, ?_⟩ | refine ⟨_, _, rfl, rfl, ?_⟩ | refine ⟨rfl, ?_⟩ | refine ⟨_, _, rfl, .inl (by assumption), ?_⟩ | refine ⟨Or.inl ⟨by decide, by decide⟩, ?_⟩ | refine ⟨(by show (0 : Int) < _; decide), ?_⟩ | refine ⟨⟨by decide, by decide⟩, ?_⟩))
    refine ⟨ai, _, _, .int 5, rfl, rfl, SqL.of (hrow _ ai hai), ?_, ?_⟩
    · have : (tab (3 + 1) (W 3))[3]? = some ((W 3 3 : Nat) : Int) := tab_get (by omega)
      rw [w3_3] at this
      exact atI_int (i := 3) (by omega) this
    exact q H1 S1
  · exact ⟨fun h => absurd h hn, fun _ => qe⟩

def sp_arcs_at (CN : Addr) : Sp := fun vs H Q E => ∃ (n r : Int), vs = [.int n, .int r] ∧ (¬ (1 ≤ n ∧ n ≤ 20) ∨ (n = 3 ∧ ¬ (0 ≤ r ∧ r ≤ 4))) ∧ ∀ H', Same H H' → E (.ref CN) none H'
theorem ok_arcs_at {CNoNumber : Addr} (F : FunD K "arcs_at" "arcs_at" s_arcs_at dV f fd) (c_refuse_no_number : Fn P w K mg base (CXE P w) "refuse_no_number" ["number", "least", "most", "called"] [] 1 (sp_refuse_no_number CNoNumber)) (c_many : Fn P w K mg base (CXE P w) "many" ["size"] [] 3 (sp_many CNoNumber)) : FnOk P w K mg base (CXE P w) 4 f fd ["size", "number"] (sp_arcs_at CNoNumber) := by
  refine F.okE (k := 3) sc_arcs_at (fun vs H Q E h => ?_) (fun cdv A outer s H vs Q E hr h => ?_)
  · obtain ⟨_, _, rfl, _⟩ := h; rfl
  obtain ⟨n, r, rfl, h, qe⟩ := h
  have nd := sc_arcs_at.nd
  refine ⟨_, (pss_cons (ps_expr (pe_fnX c_refuse_no_number hr (by decide) rfl passesE (pa_cons (pv 1) (pa_cons pe_int (pa_cons (pe_op op_sub (pe_fnX c_many hr (by decide) rfl passesE (pa_cons (pv 0) pa_nil)) pe_int) (pa_cons pe_str pa_nil))))))
  pss_never), ?_⟩
  (repeat (first | refine ⟨_, rfl, ?_⟩ | refine ⟨_, _, rfl, rfl, ?_⟩ | refine ⟨rfl, ?_⟩ | refine ⟨_, _, rfl, .inl (by assumption), ?_⟩ | refine ⟨Or.inl ⟨by decide, by decide⟩, ?_⟩ | refine ⟨(by show (0 : Int) < _; decide), ?_⟩ | refine ⟨⟨by decide, by decide⟩, ?_⟩))
  rcases h with h | ⟨e, h⟩
  · exact .inr ⟨h, qe H (Same.refl H)⟩
  · subst e
    refine .inl ⟨rfl, fun H1 S1 => ?_⟩
    (repeat (first | refine ⟨_, rfl, ?_⟩ | refine ⟨_, _, rfl, rfl, ?_⟩ | refine ⟨rfl, ?_⟩ | refine ⟨_, _, rfl, .inl (by assumption), ?_⟩ | refine ⟨Or.inl ⟨by decide, by decide⟩, ?_⟩ | refine ⟨(by show (0 : Int) < _; decide), ?_⟩ | refine ⟨⟨by decide, by decide⟩, ?_⟩))
    exact ⟨r, 0, 4, _, rfl, by decide, by decide, by decide, fun z => absurd z h, fun _ => qe H1 S1⟩

def sp_number_of := RefOne
theorem ok_number_of {CNoArcs : Addr} (F : FunD K "number_of" "number_of" s_number_of dV f fd) (c_word_of : Fn P w K mg base (CXE P w) "word_of" ["arcs"] [] 5 (sp_word_of K CNoArcs)) : FnOk P w K mg base (CXE P w) 6 f fd ["arcs"] (sp_number_of K CNoArcs) := by
  refine F.okE (k := 5) sc_number_of (fun vs H Q E h => ?_) (fun cdv A outer s H vs Q E hr h => ?_)
  · obtain ⟨_, _, rfl, _⟩ := h; rfl
  obtain ⟨a, xs, rfl, hS, hz, hb, qe⟩ := h
  have nd := sc_number_of.nd
  refine ⟨_, (pss_cons (ps_set (i := 1) nd rfl (Or.inl rfl) (pe_fnX c_word_of hr (by decide) rfl passesE (pa_cons (pv 0) pa_nil)))
  pss_never), ?_⟩
  (repeat (first | refine ⟨_, rfl, ?_⟩ | refine ⟨_, _, rfl, rfl, ?_⟩ | refine ⟨rfl, ?_⟩ | refine ⟨_, _, rfl, .inl (by assumption), ?_⟩ | refine ⟨Or.inl ⟨by decide, by decide⟩, ?_⟩ | refine ⟨(by show (0 : Int) < _; decide), ?_⟩ | refine ⟨⟨by decide, by decide⟩, ?_⟩))
  exact ⟨a, xs, rfl, hS, hz, hb, qe⟩

def sp_roads := RefTwo
theorem ok_roads {CNoArcs CUnlike : Addr} (F : FunD K "roads" "roads" s_roads dV f fd) (c_refuse_unlike : Fn P w K mg base (CXE P w) "refuse_unlike" ["one", "other"] [] 6 (sp_refuse_unlike K CNoArcs CUnlike)) : FnOk P w K mg base (CXE P w) 7 f fd ["above", "below"] (sp_roads K CNoArcs CUnlike) := by
  refine F.okE (k := 6) sc_roads (fun vs H Q E h => ?_) (fun cdv A outer s H vs Q E hr h => ?_)
  · obtain ⟨_, _, _, _, rfl, _⟩ := h; rfl
  obtain ⟨a, b, xs, ys, rfl, hA, hB, hx, hy, hd, qe⟩ := h
  have nd := sc_roads.nd
  refine ⟨_, (pss_cons (ps_expr (pe_fnX c_refuse_unlike hr (by decide) rfl passesE (pa_cons (pv 0) (pa_cons (pv 1) pa_nil))))
  pss_never), ?_⟩
  (repeat (first | refine ⟨_, rfl, ?_⟩ | refine ⟨_, _, rfl, rfl, ?_⟩ | refine ⟨rfl, ?_⟩ | refine ⟨_, _, rfl, .inl (by assumption), ?_⟩ | refine ⟨Or.inl ⟨by decide, by decide⟩, ?_⟩ | refine ⟨(by show (0 : Int) < _; decide), ?_⟩ | refine ⟨⟨by decide, by decide⟩, ?_⟩))
  exact ⟨a, b, xs, ys, rfl, hA, hB, hx, hy, hd, qe⟩

def sp_many_roads := RefTwo
theorem ok_many_roads {CNoArcs CUnlike : Addr} (F : FunD K "many_roads" "many_roads" s_many_roads dV f fd) (c_roads : Fn P w K mg base (CXE P w) "roads" ["above", "below"] [] 7 (sp_roads K CNoArcs CUnlike)) (mlen : mg "len" = none) : FnOk P w K mg base (CXE P w) 8 f fd ["above", "below"] (sp_many_roads K CNoArcs CUnlike) := by
  refine F.okE (k := 7) sc_many_roads (fun vs H Q E h => ?_) (fun cdv A outer s H vs Q E hr h => ?_)
  · obtain ⟨_, _, _, _, rfl, _⟩ := h; rfl
  obtain ⟨a, b, xs, ys, rfl, hA, hB, hx, hy, hd, qe⟩ := h
  have nd := sc_many_roads.nd
  refine ⟨_, (pss_one (ps_ret (pe_callB call_len_seq rfl mlen PySem.boot_len (pa_cons (pe_fnX c_roads hr (by decide) rfl passesE (pa_cons (pv 0) (pa_cons (pv 1) pa_nil))) pa_nil)))), ?_⟩
  (repeat (first | refine ⟨_, rfl, ?_⟩ | refine ⟨_, _, rfl, rfl, ?_⟩ | refine ⟨rfl, ?_⟩ | refine ⟨_, _, rfl, .inl (by assumption), ?_⟩ | refine ⟨Or.inl ⟨by decide, by decide⟩, ?_⟩ | refine ⟨(by show (0 : Int) < _; decide), ?_⟩ | refine ⟨⟨by decide, by decide⟩, ?_⟩))
  exact ⟨a, b, xs, ys, rfl, hA, hB, hx, hy, hd, qe⟩

def sp_one_road := RefOne
theorem ok_one_road {CNoArcs : Addr} (F : FunD K "one_road" "one_road" s_one_road dV f fd) (c_refuse_no_arcs : Fn P w K mg base (CXE P w) "refuse_no_arcs" ["some", "called"] [.str "the list"] 4 (sp_refuse_no_arcs K CNoArcs)) : FnOk P w K mg base (CXE P w) 5 f fd ["above"] (sp_one_road K CNoArcs) := by
  refine F.okE (k := 4) sc_one_road (fun vs H Q E h => ?_) (fun cdv A outer s H vs Q E hr h => ?_)
  · obtain ⟨_, _, rfl, _⟩ := h; rfl
  obtain ⟨a, xs, rfl, hS, hz, hb, qe⟩ := h
  have nd := sc_one_road.nd
  refine ⟨_, (pss_cons (ps_expr (pe_fnX c_refuse_no_arcs hr (by decide) rfl passesE (pa_cons (pv 0) pa_nil)))
  pss_never), ?_⟩
  (repeat (first | refine ⟨_, rfl, ?_⟩ | refine ⟨_, _, rfl, rfl, ?_⟩ | refine ⟨rfl, ?_⟩ | refine ⟨_, _, rfl, .inl (by assumption), ?_⟩ | refine ⟨Or.inl ⟨by decide, by decide⟩, ?_⟩ | refine ⟨(by show (0 : Int) < _; decide), ?_⟩ | refine ⟨⟨by decide, by decide⟩, ?_⟩))
  exact ⟨a, xs, _, rfl, hS, hz, by decide, fun e => absurd e (by rw [hb]; decide), fun _ => qe⟩

def sp_rows_with (CN : Addr) : Sp := fun vs H Q E => ∃ (n k : Int), vs = [.int n, .int k] ∧ (1 ≤ n ∧ n ≤ 5 → ¬ (1 ≤ k ∧ k ≤ n)) ∧ E (.ref CN) none H
theorem ok_rows_with {CNoNumber : Addr} (F : FunD K "rows_with" "rows_with" s_rows_with dV f fd) (c_refuse_no_number : Fn P w K mg base (CXE P w) "refuse_no_number" ["number", "least", "most", "called"] [] 1 (sp_refuse_no_number CNoNumber)) {tM : Tok} (mMOST_IN_PAIRS : mg "MOST_IN_PAIRS" = some (.int 5 tM)) : FnOk P w K mg base (CXE P w) 2 f fd ["size", "roads"] (sp_rows_with CNoNumber) := by
  refine F.okE (k := 1) sc_rows_with (fun vs H Q E h => ?_) (fun cdv A outer s H vs Q E hr h => ?_)
  · obtain ⟨_, _, rfl, _⟩ := h; rfl
  obtain ⟨n, k, rfl, h, qe⟩ := h
  have nd := sc_rows_with.nd
  refine ⟨_, (pss_cons (ps_expr (pe_fnX c_refuse_no_number hr (by decide) rfl passesE (pa_cons (pv 0) (pa_cons pe_int (pa_cons (pe_glob (v := .int 5) rfl mMOST_IN_PAIRS ⟨_, rfl⟩) (pa_cons pe_str pa_nil))))))
  (pss_cons (ps_expr (pe_fnX c_refuse_no_number hr (by decide) rfl passesE (pa_cons (pv 1) (pa_cons pe_int (pa_cons (pv 0) (pa_cons pe_str pa_nil))))))
  pss_never)), ?_⟩
  (repeat (first | refine ⟨_, rfl, ?_⟩ | refine ⟨_, _, rfl, rfl, ?_⟩ | refine ⟨rfl, ?_⟩ | refine ⟨_, _, rfl, .inl (by assumption), ?_⟩ | refine ⟨Or.inl ⟨by decide, by decide⟩, ?_⟩ | refine ⟨(by show (0 : Int) < _; decide), ?_⟩ | refine ⟨⟨by decide, by decide⟩, ?_⟩))
  refine ⟨n, 1, 5, _, rfl, by decide, by decide, by decide, fun hn => ?_, fun _ => qe⟩
  (repeat (first | refine ⟨_, rfl, ?_⟩ | refine ⟨_, _, rfl, rfl, ?_⟩ | refine ⟨rfl, ?_⟩ | refine ⟨_, _, rfl, .inl (by assumption), ?_⟩ | refine ⟨Or.inl ⟨by decide, by decide⟩, ?_⟩ | refine ⟨(by show (0 : Int) < _; decide), ?_⟩ | refine ⟨⟨by decide, by decide⟩, ?_⟩))
  exact ⟨k, 1, n, _, rfl, by decide, by omega, by decide, fun z => absurd z (h hn), fun _ => qe⟩

def sp_straight (CN : Addr) : Sp := fun vs H Q E => ∃ (n : Int), vs = [.int n] ∧ (1 ≤ n ∧ n ≤ 20 → ∀ r H', Same H H' → Q (.ref r) H') ∧ (¬ (1 ≤ n ∧ n ≤ 20) → E (.ref CN) none H)
theorem ok_straight {CNoNumber : Addr} (F : FunD K "straight" "straight" s_straight dV f fd) (c_refuse_no_size : Fn P w K mg base (CXE P w) "refuse_no_size" ["size"] [] 2 (sp_refuse_no_size CNoNumber)) (mrange : mg "range" = none) : FnOk P w K mg base (CXE P w) 3 f fd ["size"] (sp_straight CNoNumber) := by
  refine F.okE (k := 2) sc_straight (fun vs H Q E h => ?_) (fun cdv A outer s H vs Q E hr h => ?_)
  · obtain ⟨_, rfl, _⟩ := h; rfl
  obtain ⟨n, rfl, q, qe⟩ := h
  have nd := sc_straight.nd
  refine ⟨_, (pss_cons (ps_expr (pe_fnX c_refuse_no_size hr (by decide) rfl passesE (pa_cons (pv 0) pa_nil)))
  (pss_one (ps_ret (pe_comp (compOk (N' := ["bridge", "size"]) (js := [none, some 0]) (N := ["size"]) (sc := defScope s_straight) rfl rfl rfl (by decide +kernel) (by decide +kernel) (by decide +kernel) rfl (by decide +kernel)) rfl (pi_range1 rfl mrange (pa_cons (pe_op op_mul pe_int (pv 0)) pa_nil)) (fun _ _ _ _ _ => (pg_name (i := 0) (show [("bridge" : PySem.Str), ("size" : PySem.Str)].Nodup by decide +kernel) rfl (Or.inl rfl))) (fun _ _ _ _ _ => pf_nil) (fun _ _ _ _ _ => (pe_op op_sub (pe_op op_sub (pe_op op_mul pe_int (pv 1)) pe_int) (pv 0))))))), ?_⟩
  (repeat (first | refine ⟨_, rfl, ?_⟩ | refine ⟨_, _, rfl, rfl, ?_⟩ | refine ⟨rfl, ?_⟩ | refine ⟨_, _, rfl, .inl (by assumption), ?_⟩ | refine ⟨Or.inl ⟨by decide, by decide⟩, ?_⟩ | refine ⟨(by show (0 : Int) < _; decide), ?_⟩ | refine ⟨⟨by decide, by decide⟩, ?_⟩))
  refine ⟨fun hn => ?_, qe⟩
  (repeat (first | refine ⟨_, rfl, ?_⟩ | refine ⟨_, _, rfl, rfl, ?_⟩ | refine ⟨rfl, ?_⟩ | refine ⟨_, _, rfl, .inl (by assumption), ?_⟩ | refine ⟨Or.inl ⟨by decide, by decide⟩, ?_⟩ | refine ⟨(by show (0 : Int) < _; decide), ?_⟩ | refine ⟨⟨by decide, by decide⟩, ?_⟩))
  refine ⟨by omega, by omega, fun p hp => ?_⟩
  refine comp_all ((2 : Int) * n).toNat (fun i => .int ((2 : Int) * n - 1 - (i : Int))) (fun σ => ∃ u, σ = [u, some (.int n)]) (small60 (by omega)) ⟨_, rfl⟩ hp (fun i H' hi _ => hi) (fun H' _ => Nat.le_refl _) ?_ ?_
  · rintro i x σ' H' H2 k hi ⟨u, rfl⟩ S' ⟨rfl, rfl⟩ hk
    have e0 : (0 : Int) + (i : Int) = i := by omega
    rw [e0]
    (repeat (first | refine ⟨_, rfl, ?_⟩ | refine ⟨_, _, rfl, rfl, ?_⟩ | refine ⟨rfl, ?_⟩ | refine ⟨_, _, rfl, .inl (by assumption), ?_⟩ | refine ⟨Or.inl ⟨by decide, by decide⟩, ?_⟩ | refine ⟨(by show (0 : Int) < _; decide), ?_⟩ | refine ⟨⟨by decide, by decide⟩, ?_⟩))
    exact hk _ _ _ ⟨_, rfl⟩ rfl (Same.refl _)
  · intro H' S' _
    exact q hn p H' S'

def sp_hook (CN : Addr) : Sp := fun vs H Q E => ∃ (n j : Int), vs = [.int n, .int j] ∧ (1 ≤ n ∧ n ≤ 20 → ¬ (0 ≤ j ∧ j ≤ n - 2)) ∧ ∀ H', Same H H' → E (.ref CN) none H'
theorem ok_hook {CNoNumber : Addr} (F : FunD K "hook" "hook" s_hook dV f fd) (c_straight : Fn P w K mg base (CXE P w) "straight" ["size"] [] 3 (sp_straight CNoNumber)) (c_refuse_no_number : Fn P w K mg base (CXE P w) "refuse_no_number" ["number", "least", "most", "called"] [] 1 (sp_refuse_no_number CNoNumber)) : FnOk P w K mg base (CXE P w) 4 f fd ["size", "j"] (sp_hook CNoNumber) := by
  refine F.okE (k := 3) sc_hook (fun vs H Q E h => ?_) (fun cdv A outer s H vs Q E hr h => ?_)
  · obtain ⟨_, _, rfl, _⟩ := h; rfl
  obtain ⟨n, j, rfl, h, qe⟩ := h
  have nd := sc_hook.nd
  refine ⟨_, (pss_cons (ps_set (i := 2) nd rfl (Or.inl rfl) (pe_fnX c_straight hr (by decide) rfl passesE (pa_cons (pv 0) pa_nil)))
  (pss_cons (ps_expr (pe_fnX c_refuse_no_number hr (by decide) rfl passesE (pa_cons (pv 1) (pa_cons pe_int (pa_cons (pe_op op_sub (pv 0) pe_int) (pa_cons pe_str pa_nil))))))
  pss_never)), ?_⟩
  (repeat (first | refine ⟨_, rfl, ?_⟩ | refine ⟨_, _, rfl, rfl, ?_⟩ | refine ⟨rfl, ?_⟩ | refine ⟨_, _, rfl, .inl (by assumption), ?_⟩ | refine ⟨Or.inl ⟨by decide, by decide⟩, ?_⟩ | refine ⟨(by show (0 : Int) < _; decide), ?_⟩ | refine ⟨⟨by decide, by decide⟩, ?_⟩))
  refine ⟨fun hn r H1 S1 => ?_, fun _ => qe H (Same.refl H)⟩
  (repeat (first | refine ⟨_, rfl, ?_⟩ | refine ⟨_, _, rfl, rfl, ?_⟩ | refine ⟨rfl, ?_⟩ | refine ⟨_, _, rfl, .inl (by assumption), ?_⟩ | refine ⟨Or.inl ⟨by decide, by decide⟩, ?_⟩ | refine ⟨(by show (0 : Int) < _; decide), ?_⟩ | refine ⟨⟨by decide, by decide⟩, ?_⟩))
  exact ⟨j, 0, n - 2, _, rfl, by decide, by omega, by decide, fun z => absurd z (h hn), fun _ => qe H1 S1⟩

def sp_laid := RefTwo
theorem ok_laid {CNoArcs CUnlike : Addr} (F : FunD K "laid" "laid" s_laid dV f fd) (c_refuse_unlike : Fn P w K mg base (CXE P w) "refuse_unlike" ["one", "other"] [] 6 (sp_refuse_unlike K CNoArcs CUnlike)) : FnOk P w K mg base (CXE P w) 7 f fd ["one", "other"] (sp_laid K CNoArcs CUnlike) := by
  refine F.okE (k := 6) sc_laid (fun vs H Q E h => ?_) (fun cdv A outer s H vs Q E hr h => ?_)
  · obtain ⟨_, _, _, _, rfl, _⟩ := h; rfl
  obtain ⟨a, b, xs, ys, rfl, hA, hB, hx, hy, hd, qe⟩ := h
  have nd := sc_laid.nd
  refine ⟨_, (pss_cons (ps_expr (pe_fnX c_refuse_unlike hr (by decide) rfl passesE (pa_cons (pv 0) (pa_cons (pv 1) pa_nil))))
  pss_never), ?_⟩
  (repeat (first | refine ⟨_, rfl, ?_⟩ | refine ⟨_, _, rfl, rfl, ?_⟩ | refine ⟨rfl, ?_⟩ | refine ⟨_, _, rfl, .inl (by assumption), ?_⟩ | refine ⟨Or.inl ⟨by decide, by decide⟩, ?_⟩ | refine ⟨(by show (0 : Int) < _; decide), ?_⟩ | refine ⟨⟨by decide, by decide⟩, ?_⟩))
  exact ⟨a, b, xs, ys, rfl, hA, hB, hx, hy, hd, qe⟩

def sp_closed := RefOne
theorem ok_closed {CNoArcs : Addr} (F : FunD K "closed" "closed" s_closed dV f fd) (c_refuse_no_arcs : Fn P w K mg base (CXE P w) "refuse_no_arcs" ["some", "called"] [.str "the list"] 4 (sp_refuse_no_arcs K CNoArcs)) : FnOk P w K mg base (CXE P w) 5 f fd ["arcs"] (sp_closed K CNoArcs) := by
  refine F.okE (k := 4) sc_closed (fun vs H Q E h => ?_) (fun cdv A outer s H vs Q E hr h => ?_)
  · obtain ⟨_, _, rfl, _⟩ := h; rfl
  obtain ⟨a, xs, rfl, hS, hz, hb, qe⟩ := h
  have nd := sc_closed.nd
  refine ⟨_, (pss_cons (ps_expr (pe_fnX c_refuse_no_arcs hr (by decide) rfl passesE (pa_cons (pv 0) pa_nil)))
  pss_never), ?_⟩
  (repeat (first | refine ⟨_, rfl, ?_⟩ | refine ⟨_, _, rfl, rfl, ?_⟩ | refine ⟨rfl, ?_⟩ | refine ⟨_, _, rfl, .inl (by assumption), ?_⟩ | refine ⟨Or.inl ⟨by decide, by decide⟩, ?_⟩ | refine ⟨(by show (0 : Int) < _; decide), ?_⟩ | refine ⟨⟨by decide, by decide⟩, ?_⟩))
  exact ⟨a, xs, _, rfl, hS, hz, by decide, fun e => absurd e (by rw [hb]; decide), fun _ => qe⟩

def sp_law_cell_at (K : PySem.W.Frag) : Sp := fun vs H Q _ => ∃ (a : Addr) (ns : List Int) (k : Int), vs = [.ref a, .int k] ∧ SqL K H a (ns.map V.int) ∧ 0 ≤ k ∧ Q (.int (cellAt ns k)) H
theorem ok_law_cell_at (F : FunD K "_law_cell_at" "_law_cell_at" s_law_cell_at dV f fd) (mlen : mg "len" = none) : FnOk P w K mg base CX0 1 f fd ["script", "k"] (sp_law_cell_at K) := by
  refine F.ok (k := 0) sc_law_cell_at (fun vs H Q E h => ?_) (fun cdv A outer s H vs Q E hr h => ?_)
  · obtain ⟨_, _, _, rfl, _⟩ := h; rfl
  obtain ⟨a, ns, k, rfl, hS, h0, q⟩ := h
  have nd := sc_law_cell_at.nd
  refine ⟨_, (pss_cons (ps_if (pt_cmpR op_lt (pv 1) (pe_callB call_len_seq rfl mlen PySem.boot_len (pa_cons (pv 0) pa_nil)) (nomark _)) (pss_one (ps_ret (pe_ix ix_list (pv 0) (pv 1) (fun _ _ => rfl)))) pss_nil)
  (pss_one (ps_ret pe_int))), ?_⟩
  have hl : (ns.map V.int).length = ns.length := List.length_map _
  unfold cellAt at q
  (repeat (first | refine ⟨_, rfl, ?_⟩ | refine ⟨_, _, rfl, rfl, ?_⟩ | refine ⟨rfl, ?_⟩ | refine ⟨_, _, rfl, .inl (by assumption), ?_⟩ | refine ⟨Or.inl ⟨by decide, by decide⟩, ?_⟩ | refine ⟨(by show (0 : Int) < _; decide), ?_⟩ | refine ⟨⟨by decide, by decide⟩, ?_⟩))
  rw [hl]
  refine ite2 (fun c => ?_) (fun c => ?_)
  · have c' : k < ns.length := of_decide_eq_true c
    obtain ⟨v, hv⟩ : ∃ v, ns[k.toNat]? = some v := ⟨_, List.getElem?_eq_getElem (by omega)⟩
    (repeat (first | refine ⟨_, rfl, ?_⟩ | refine ⟨_, _, rfl, rfl, ?_⟩ | refine ⟨rfl, ?_⟩ | refine ⟨_, _, rfl, .inl (by assumption), ?_⟩ | refine ⟨Or.inl ⟨by decide, by decide⟩, ?_⟩ | refine ⟨(by show (0 : Int) < _; decide), ?_⟩ | refine ⟨⟨by decide, by decide⟩, ?_⟩))
    refine ⟨_, _, _, _, rfl, rfl, hS, atI_int h0 hv, ?_⟩
    exact toI q (by rw [List.getD_eq_getElem?_getD, hv]; rfl)
  · have c' : ¬ k < ns.length := fun z => c (decide_eq_true z)
    exact toI q (by rw [List.getD_eq_getElem?_getD, List.getElem?_eq_none (by omega)]; rfl)

def sp_law_which (K : PySem.W.Frag) (CA CN CU CT CR : Addr) : Sp := fun vs H Q _ => ∃ (x C : Addr) (b0 b1 b2 b3 b4 b5 : Bool), vs = [.ref x] ∧ H x = some (excO x C) ∧ ExcC K C ∧ PySem.W.kitOne K (.ref C) (.ref CA) = some b0 ∧ PySem.W.kitOne K (.ref C) (.ref CN) = some b1 ∧ PySem.W.kitOne K (.ref C) (.ref CU) = some b2 ∧ PySem.W.kitOne K (.ref C) (.ref CT) = some b3 ∧ PySem.W.kitOne K (.ref C) (.ref CR) = some b4 ∧ PySem.W.kitOne K (.ref C) (.type "ValueError") = some b5 ∧
  ∀ r H', Same H H' → H' r = some (.lst [.bl b0, .bl b1, .bl b2, .bl b3, .bl b4, .bl b5]) → Q (.ref r) H'
theorem ok_law_which {CNoArcs CNoNumber CUnlike CTooMany CNotRead : Addr} (F : FunD K "_law_which" "_law_which" s_law_which dV f fd) (misinstance : mg "isinstance" = none) (mValueError : mg "ValueError" = none) (mNoArcs : mg "NoArcs" = some (.ref CNoArcs)) (mNoNumber : mg "NoNumber" = some (.ref CNoNumber)) (mUnlike : mg "Unlike" = some (.ref CUnlike)) (mTooMany : mg "TooMany" = some (.ref CTooMany)) (mNotRead : mg "NotRead" = some (.ref CNotRead)) : FnOkM P w K mg base 1 f fd ["e"] (sp_law_which K CNoArcs CNoNumber CUnlike CTooMany CNotRead) := by
  refine F.okM (k := 0) sc_law_which (fun vs H Q E h => ?_) (fun cdv A e outer s H vs Q E hr h => ?_)
  · obtain ⟨_, _, _, _, _, _, _, _, rfl, _⟩ := h; rfl
  obtain ⟨x, C, b0, b1, b2, b3, b4, b5, rfl, hx, eC, k0, k1, k2, k3, k4, k5, q⟩ := h
  have nd := sc_law_which.nd
  refine ⟨_, (pss_cons (ps_set (i := 1) nd rfl (Or.inl rfl) (pe_lst (pa_cons (pe_callB (call_instEK (K := K) rfl) rfl misinstance PyProof.Rows.boot_isinstance (pa_cons (pv 0) (pa_cons (pe_glob (v := .ref CNoArcs) rfl mNoArcs rfl) pa_nil))) (pa_cons (pe_callB (call_instEK (K := K) rfl) rfl misinstance PyProof.Rows.boot_isinstance (pa_cons (pv 0) (pa_cons (pe_glob (v := .ref CNoNumber) rfl mNoNumber rfl) pa_nil))) (pa_cons (pe_callB (call_instEK (K := K) rfl) rfl misinstance PyProof.Rows.boot_isinstance (pa_cons (pv 0) (pa_cons (pe_glob (v := .ref CUnlike) rfl mUnlike rfl) pa_nil))) pa_nil)))))
  (pss_one (ps_ret (pe_op op_cat (pv 1) (pe_lst (pa_cons (pe_callB (call_instEK (K := K) rfl) rfl misinstance PyProof.Rows.boot_isinstance (pa_cons (pv 0) (pa_cons (pe_glob (v := .ref CTooMany) rfl mTooMany rfl) pa_nil))) (pa_cons (pe_callB (call_instEK (K := K) rfl) rfl misinstance PyProof.Rows.boot_isinstance (pa_cons (pv 0) (pa_cons (pe_glob (v := .ref CNotRead) rfl mNotRead rfl) pa_nil))) (pa_cons (pe_callB (call_instEK (K := K) rfl) rfl misinstance PyProof.Rows.boot_isinstance (pa_cons (pv 0) (pa_cons (pe_bltn (v := .ty "ValueError") rfl mValueError boot_ValueError rfl) pa_nil))) pa_nil)))))))), ?_⟩
  (repeat (first | refine ⟨_, rfl, ?_⟩ | refine ⟨_, _, rfl, rfl, ?_⟩ | refine ⟨rfl, ?_⟩ | refine ⟨_, _, rfl, .inl (by assumption), ?_⟩ | refine ⟨Or.inl ⟨by decide, by decide⟩, ?_⟩ | refine ⟨(by show (0 : Int) < _; decide), ?_⟩ | refine ⟨⟨by decide, by decide⟩, ?_⟩))
  refine ⟨x, C, _, _, b0, rfl, hx, eC, rfl, k0, ?_⟩
  (repeat (first | refine ⟨_, rfl, ?_⟩ | refine ⟨_, _, rfl, rfl, ?_⟩ | refine ⟨rfl, ?_⟩ | refine ⟨_, _, rfl, .inl (by assumption), ?_⟩ | refine ⟨Or.inl ⟨by decide, by decide⟩, ?_⟩ | refine ⟨(by show (0 : Int) < _; decide), ?_⟩ | refine ⟨⟨by decide, by decide⟩, ?_⟩))
  refine ⟨x, C, _, _, b1, rfl, hx, eC, rfl, k1, ?_⟩
  (repeat (first | refine ⟨_, rfl, ?_⟩ | refine ⟨_, _, rfl, rfl, ?_⟩ | refine ⟨rfl, ?_⟩ | refine ⟨_, _, rfl, .inl (by assumption), ?_⟩ | refine ⟨Or.inl ⟨by decide, by decide⟩, ?_⟩ | refine ⟨(by show (0 : Int) < _; decide), ?_⟩ | refine ⟨⟨by decide, by decide⟩, ?_⟩))
  refine ⟨x, C, _, _, b2, rfl, hx, eC, rfl, k2, ?_⟩
  refine ⟨(by show 3 ≤ sizeLine; decide), fun l hl => ?_⟩
  have S1 := same_upd_new hl (.lst [.bl b0, .bl b1, .bl b2])
  have hx1 := S1 _ _ hx
  (repeat (first | refine ⟨_, rfl, ?_⟩ | refine ⟨_, _, rfl, rfl, ?_⟩ | refine ⟨rfl, ?_⟩ | refine ⟨_, _, rfl, .inl (by assumption), ?_⟩ | refine ⟨Or.inl ⟨by decide, by decide⟩, ?_⟩ | refine ⟨(by show (0 : Int) < _; decide), ?_⟩ | refine ⟨⟨by decide, by decide⟩, ?_⟩))
  refine ⟨x, C, _, _, b3, rfl, hx1, eC, rfl, k3, ?_⟩
  (repeat (first | refine ⟨_, rfl, ?_⟩ | refine ⟨_, _, rfl, rfl, ?_⟩ | refine ⟨rfl, ?_⟩ | refine ⟨_, _, rfl, .inl (by assumption), ?_⟩ | refine ⟨Or.inl ⟨by decide, by decide⟩, ?_⟩ | refine ⟨(by show (0 : Int) < _; decide), ?_⟩ | refine ⟨⟨by decide, by decide⟩, ?_⟩))
  refine ⟨x, C, _, _, b4, rfl, hx1, eC, rfl, k4, ?_⟩
  (repeat (first | refine ⟨_, rfl, ?_⟩ | refine ⟨_, _, rfl, rfl, ?_⟩ | refine ⟨rfl, ?_⟩ | refine ⟨_, _, rfl, .inl (by assumption), ?_⟩ | refine ⟨Or.inl ⟨by decide, by decide⟩, ?_⟩ | refine ⟨(by show (0 : Int) < _; decide), ?_⟩ | refine ⟨⟨by decide, by decide⟩, ?_⟩))
  refine ⟨x, C, _, _, b5, rfl, hx1, eC, rfl, k5, ?_⟩
  refine ⟨(by show 3 ≤ sizeLine; decide), fun l2 hl2 => ?_⟩
  have S2 := same_upd_new hl2 (.lst [.bl b3, .bl b4, .bl b5])
  refine ⟨l, l2, _, _, rfl, rfl, S2 _ _ upd_same, upd_same, (by show 6 ≤ sizeLine; decide), fun r hr' => ?_⟩
  exact q r _ (S1.trans (S2.trans (same_upd_new hr' _))) upd_same

def sp_law_of_two (K : PySem.W.Frag) (CA CU CT : Addr) : Sp := fun vs H Q E => ∃ (v : Int) (a b : Addr) (xs ys : List Int), vs = [.int v, .ref a, .ref b] ∧ SqL K H a (xs.map V.int) ∧ SqL K H b (ys.map V.int) ∧ xs.length ≤ 1000 ∧ ys.length ≤ 1000 ∧ ((isArcsM xs && isArcsM ys) = true → v = 0 → 40 < xs.length + ys.length) ∧ ((isArcsM xs && isArcsM ys) = true → v ≠ 0 → xs.length ≠ ys.length) ∧ ∀ H', Same H H' → E (.ref (if (isArcsM xs && isArcsM ys) = true then (if v = 0 then CT else CU) else CA)) none H'
theorem ok_law_of_two {CNoArcs CUnlike CTooMany : Addr} (F : FunD K "_law_of_two" "_law_of_two" s_law_of_two dV f fd) (c_beside : Fn P w K mg base (CXE P w) "beside" ["one", "other"] [] 6 (sp_beside K CNoArcs CTooMany)) (c_roads : Fn P w K mg base (CXE P w) "roads" ["above", "below"] [] 7 (sp_roads K CNoArcs CUnlike)) (c_many_roads : Fn P w K mg base (CXE P w) "many_roads" ["above", "below"] [] 8 (sp_many_roads K CNoArcs CUnlike)) (c_laid : Fn P w K mg base (CXE P w) "laid" ["one", "other"] [] 7 (sp_laid K CNoArcs CUnlike)) : FnOk P w K mg base (CXE P w) 9 f fd ["way", "one", "other"] (sp_law_of_two K CNoArcs CUnlike CTooMany) := by
  refine F.okE (k := 8) sc_law_of_two (fun vs H Q E h => ?_) (fun cdv A outer s H vs Q E hr h => ?_)
  · obtain ⟨_, _, _, _, _, rfl, _⟩ := h; rfl
  obtain ⟨v, a, b, xs, ys, rfl, hA, hB, hx, hy, h0, h1, qe⟩ := h
  have nd := sc_law_of_two.nd
  refine ⟨_, (pss_one (ps_if (pt_cmpR op_eq (pv 0) pe_int (nomark _)) (pss_one (ps_expr (pe_fnX c_beside hr (by decide) rfl passesE (pa_cons (pv 1) (pa_cons (pv 2) pa_nil))))) (pss_one (ps_if (pt_cmpR op_eq (pv 0) pe_int (nomark _)) (pss_one (ps_expr (pe_fnX c_roads hr (by decide) rfl passesE (pa_cons (pv 1) (pa_cons (pv 2) pa_nil))))) (pss_one (ps_if (pt_cmpR op_eq (pv 0) pe_int (nomark _)) (pss_one (ps_expr (pe_fnX c_many_roads hr (by decide) rfl passesE (pa_cons (pv 1) (pa_cons (pv 2) pa_nil))))) (pss_one (ps_expr (pe_fnX c_laid hr (by decide) rfl passesE (pa_cons (pv 1) (pa_cons (pv 2) pa_nil))))))))))), ?_⟩
  (repeat (first | refine ⟨_, rfl, ?_⟩ | refine ⟨_, _, rfl, rfl, ?_⟩ | refine ⟨rfl, ?_⟩ | refine ⟨_, _, rfl, .inl (by assumption), ?_⟩ | refine ⟨Or.inl ⟨by decide, by decide⟩, ?_⟩ | refine ⟨(by show (0 : Int) < _; decide), ?_⟩ | refine ⟨⟨by decide, by decide⟩, ?_⟩))
  refine ite2 (fun c => ?_) (fun c => ?_)
  · have c' : v = 0 := eq_yes c
    (repeat (first | refine ⟨_, rfl, ?_⟩ | refine ⟨_, _, rfl, rfl, ?_⟩ | refine ⟨rfl, ?_⟩ | refine ⟨_, _, rfl, .inl (by assumption), ?_⟩ | refine ⟨Or.inl ⟨by decide, by decide⟩, ?_⟩ | refine ⟨(by show (0 : Int) < _; decide), ?_⟩ | refine ⟨⟨by decide, by decide⟩, ?_⟩))
    refine ⟨a, b, xs, ys, rfl, hA, hB, hx, hy, fun e => h0 e c', fun H' S' => ?_⟩
    have := qe H' S'
    rw [if_pos c'] at this
    exact this
  have c' : v ≠ 0 := eq_no c
  have two : ∀ H', Same H H' → E (.ref (if (isArcsM xs && isArcsM ys) = true then CUnlike else CNoArcs)) none H' := fun H' S' => by
    have := qe H' S'
    rw [if_neg c'] at this
    exact this
  have all : RefTwo K CNoArcs CUnlike [.ref a, .ref b] H Q E := ⟨a, b, xs, ys, rfl, hA, hB, hx, hy, fun e => h1 e c', two⟩
  (repeat (first | refine ⟨_, rfl, ?_⟩ | refine ⟨_, _, rfl, rfl, ?_⟩ | refine ⟨rfl, ?_⟩ | refine ⟨_, _, rfl, .inl (by assumption), ?_⟩ | refine ⟨Or.inl ⟨by decide, by decide⟩, ?_⟩ | refine ⟨(by show (0 : Int) < _; decide), ?_⟩ | refine ⟨⟨by decide, by decide⟩, ?_⟩))
  refine ite2 (fun _ => ?_) (fun _ => ?_)
  · (repeat (first | refine ⟨_, rfl, ?_⟩ | refine ⟨_, _, rfl, rfl, ?_⟩ | refine ⟨rfl, ?_⟩ | refine ⟨_, _, rfl, .inl (by assumption), ?_⟩ | refine ⟨Or.inl ⟨by decide, by decide⟩, ?_⟩ | refine ⟨(by show (0 : Int) < _; decide), ?_⟩ | refine ⟨⟨by decide, by decide⟩, ?_⟩))
    exact ⟨a, b, xs, ys, rfl, hA, hB, hx, hy, fun e => h1 e c', two⟩
  (repeat (first | refine ⟨_, rfl, ?_⟩ | refine ⟨_, _, rfl, rfl, ?_⟩ | refine ⟨rfl, ?_⟩ | refine ⟨_, _, rfl, .inl (by assumption), ?_⟩ | refine ⟨Or.inl ⟨by decide, by decide⟩, ?_⟩ | refine ⟨(by show (0 : Int) < _; decide), ?_⟩ | refine ⟨⟨by decide, by decide⟩, ?_⟩))
  refine ite2 (fun _ => ?_) (fun _ => ?_)
  · (repeat (first | refine ⟨_, rfl, ?_⟩ | refine ⟨_, _, rfl, rfl, ?_⟩ | refine ⟨rfl, ?_⟩ | refine ⟨_, _, rfl, .inl (by assumption), ?_⟩ | refine ⟨Or.inl ⟨by decide, by decide⟩, ?_⟩ | refine ⟨(by show (0 : Int) < _; decide), ?_⟩ | refine ⟨⟨by decide, by decide⟩, ?_⟩))
    exact ⟨a, b, xs, ys, rfl, hA, hB, hx, hy, fun e => h1 e c', two⟩
  · (repeat (first | refine ⟨_, rfl, ?_⟩ | refine ⟨_, _, rfl, rfl, ?_⟩ | refine ⟨rfl, ?_⟩ | refine ⟨_, _, rfl, .inl (by assumption), ?_⟩ | refine ⟨Or.inl ⟨by decide, by decide⟩, ?_⟩ | refine ⟨(by show (0 : Int) < _; decide), ?_⟩ | refine ⟨⟨by decide, by decide⟩, ?_⟩))
    exact ⟨a, b, xs, ys, rfl, hA, hB, hx, hy, fun e => h1 e c', two⟩

-- CUT 3
/-- reading kept shut: elaboration looks into what these say no further than their name -/
structure PAo (X : Cx) (es : List Expr) (t : TA) : Prop where
  un : PA X es t
structure PSso (X : Cx) (sts : List Stmt) (t : TS) : Prop where
  un : PSs X sts t
section
variable {X : Cx} {es es' : List Expr} {pos : Pos} {te : TE} {t t' : TA}
theorem pao_nil : PAo X [] tNil := ⟨pa_nil⟩
theorem pao_int {i j} (hr : PAo X es t) : PAo X (.Constant (.int i) j pos :: es) (tCons (tC (.int i)) t) := ⟨pa_cons pe_int hr.un rfl⟩
theorem pao_lst (ha : PAo X es' t') (hr : PAo X es t) : PAo X (.List es' pos :: es) (tCons (tLst t') t) := ⟨pa_cons (pe_lst ha.un) hr.un rfl⟩
theorem pao_bin {a o b} (ha : PE X (.BinOp a o b pos) te) (hr : PAo X es t) : PAo X (.BinOp a o b pos :: es) (tCons te t) := ⟨pa_cons ha hr.un rfl⟩
theorem pao_un {o a} (ha : PE X (.UnaryOp o a pos) te) (hr : PAo X es t) : PAo X (.UnaryOp o a pos :: es) (tCons te t) := ⟨pa_cons ha hr.un rfl⟩
theorem pao_comp {a b c} (ha : PE X (.ListComp a b c pos) te) (hr : PAo X es t) : PAo X (.ListComp a b c pos :: es) (tCons te t) := ⟨pa_cons ha hr.un rfl⟩
theorem psso_set {i : Nat} {x : Str} {pos' pos2 : Pos} {rest : List Stmt} {u : TS} (hN : X.N.Nodup) (hi : X.N[i]? = some x) (hx : Loc X.env.scope x) (he : PAo X es t) (hr : PSso X rest u) (hf : X.fn x = true ∨ X.env.scope.names.lookup x = some .local := by first | exact .inl rfl | exact .inr rfl | assumption) :
    PSso X (.Assign [.Name x pos'] (.List es pos2) pos :: rest) (tSeq (tAsg (tLst t) (gName i)) u) := ⟨pss_cons (ps_set hN hi hx (pe_lst he.un) rfl hf) hr.un⟩
theorem psso_in {sts : List Stmt} {D : Ends} {σ : St} {H : Hp} (h : ∃ t, PSso X sts t ∧ t D σ H) : ∃ t, PSs X sts t ∧ t D σ H := by
  obtain ⟨t, ⟨h⟩, q⟩ := h
  exact ⟨t, h, q⟩
end
theorem far_no {far : Int} (h : 1 ≤ far) : isArcsM [1 + far, 0] = false := by
  cases e : isArcsM [1 + far, 0] with
  | false => rfl
  | true =>
    exfalso
    obtain ⟨g, hg, A, _⟩ := isArcs_of e
    have h0 := congrArg (fun l => l[0]?) hg
    have lt := A.lt 0 (by simp)
    simp [tab] at h0
    simp at lt
    omega
def sp_law_no_arcs (CA : Addr) : Sp := fun vs H Q E => ∃ (cell far : Int), vs = [.int cell, .int far] ∧ 1 ≤ far ∧ ∀ H', Same H H' → E (.ref CA) none H'
section
variable {cdv : Value} {A : Around} {outer : List Env} {s : Shared} {H0 : Hp} {Q : VK} {E : XK}
theorem no_arcs_rest {CNoArcs CUnlike CTooMany : Addr} (hr : Room 9 (A.deeper (PyProof.Rows.envOfC "_law_no_arcs" (defScope s_law_no_arcs) s.heap.objs.size f cdv))) (c_law_of_two : Fn P w K mg base (CXE P w) "_law_of_two" ["way", "one", "other"] [] 9 (sp_law_of_two K CNoArcs CUnlike CTooMany)) (c_word_of : Fn P w K mg base (CXE P w) "word_of" ["arcs"] [] 5 (sp_word_of K CNoArcs)) (c_turned : Fn P w K mg base (CXE P w) "turned" ["arcs", "by"] [] 5 (sp_turned K CNoArcs)) (c_mirrored : Fn P w K mg base (CXE P w) "mirrored" ["arcs"] [] 5 (sp_mirrored K CNoArcs)) (c_covered : Fn P w K mg base (CXE P w) "covered" ["arcs"] [] 5 (sp_covered K CNoArcs CTooMany)) (c_number_of : Fn P w K mg base (CXE P w) "number_of" ["arcs"] [] 6 (sp_number_of K CNoArcs)) (c_one_road : Fn P w K mg base (CXE P w) "one_road" ["above"] [] 5 (sp_one_road K CNoArcs)) (c_closed : Fn P w K mg base (CXE P w) "closed" ["arcs"] [] 5 (sp_closed K CNoArcs)) :
    ∃ t : TS, PSs (cxOf (CXE P w) P w K mg base ["cell", "far", "some", "bad", "way"] "_law_no_arcs" (defScope s_law_no_arcs) f cdv A outer s H0 E) ((defBody s_law_no_arcs).drop 3) t ∧
      ∀ (Ga : Hp) (cell far v : Int) (ls a : Addr) (xs : List Int), SqL K Ga a (xs.map V.int) → xs.length ≤ 1000 → isArcsM xs = false → (∀ H', Same Ga H' → E (.ref CNoArcs) none H') →
        t { nx := fun _ H' => Q .non H', rt := Q } [some (.int cell), some (.int far), some (.ref ls), some (.ref a), some (.int v)] Ga := by
  have nd := sc_law_no_arcs.nd
  refine ⟨_, (pss_one (ps_if (pt_cmpR op_lt (pv 4) pe_int (nomark _)) (pss_one (ps_expr (pe_fnX c_law_of_two hr (by decide) rfl passesE (pa_cons (pv 4) (pa_cons (pv 3) (pa_cons (pe_lst (pa_cons pe_int (pa_cons pe_int (pa_cons pe_int (pa_cons pe_int pa_nil))))) pa_nil)))))) (pss_one (ps_if (pt_cmpR op_lt (pv 4) pe_int (nomark _)) (pss_one (ps_expr (pe_fnX c_law_of_two hr (by decide) rfl passesE (pa_cons (pe_op op_sub (pv 4) pe_int) (pa_cons (pe_lst (pa_cons pe_int (pa_cons pe_int pa_nil))) (pa_cons (pv 3) pa_nil)))))) (pss_one (ps_if (pt_cmpR op_eq (pv 4) pe_int (nomark _)) (pss_one (ps_expr (pe_fnX c_word_of hr (by decide) rfl passesE (pa_cons (pv 3) pa_nil)))) (pss_one (ps_if (pt_cmpR op_eq (pv 4) pe_int (nomark _)) (pss_one (ps_expr (pe_fnX c_turned hr (by decide) rfl passesE (pa_cons (pv 3) (pa_cons pe_int pa_nil))))) (pss_one (ps_if (pt_cmpR op_eq (pv 4) pe_int (nomark _)) (pss_one (ps_expr (pe_fnX c_mirrored hr (by decide) rfl passesE (pa_cons (pv 3) pa_nil)))) (pss_one (ps_if (pt_cmpR op_eq (pv 4) pe_int (nomark _)) (pss_one (ps_expr (pe_fnX c_covered hr (by decide) rfl passesE (pa_cons (pv 3) pa_nil)))) (pss_one (ps_if (pt_cmpR op_eq (pv 4) pe_int (nomark _)) (pss_one (ps_expr (pe_fnX c_number_of hr (by decide) rfl passesE (pa_cons (pv 3) pa_nil)))) (pss_one (ps_if (pt_cmpR op_eq (pv 4) pe_int (nomark _)) (pss_one (ps_expr (pe_fnX c_one_road hr (by decide) rfl passesE (pa_cons (pv 3) pa_nil)))) (pss_one (ps_expr (pe_fnX c_closed hr (by decide) rfl passesE (pa_cons (pv 3) pa_nil)))))))))))))))))))), ?_⟩
  intro Ga cell far v ls a xs ha hxs hb qa
  (repeat (first | refine ⟨_, rfl, ?_⟩ | refine ⟨_, _, rfl, rfl, ?_⟩ | refine ⟨rfl, ?_⟩ | refine ⟨_, _, rfl, .inl (by assumption), ?_⟩ | refine ⟨Or.inl ⟨by decide, by decide⟩, ?_⟩ | refine ⟨(by show (0 : Int) < _; decide), ?_⟩ | refine ⟨⟨by decide, by decide⟩, ?_⟩))
  refine ite2 (fun _ => ?_) (fun _ => ?_)
  · (repeat (first | refine ⟨_, rfl, ?_⟩ | refine ⟨_, _, rfl, rfl, ?_⟩ | refine ⟨rfl, ?_⟩ | refine ⟨_, _, rfl, .inl (by assumption), ?_⟩ | refine ⟨Or.inl ⟨by decide, by decide⟩, ?_⟩ | refine ⟨(by show (0 : Int) < _; decide), ?_⟩ | refine ⟨⟨by decide, by decide⟩, ?_⟩))
    refine ⟨(by show 4 ≤ sizeLine; decide), fun l hl => ?_⟩
    have Tl := same_upd_new hl (.lst [.int 1, .int 0, .int 3, .int 2])
    (repeat (first | refine ⟨_, rfl, ?_⟩ | refine ⟨_, _, rfl, rfl, ?_⟩ | refine ⟨rfl, ?_⟩ | refine ⟨_, _, rfl, .inl (by assumption), ?_⟩ | refine ⟨Or.inl ⟨by decide, by decide⟩, ?_⟩ | refine ⟨(by show (0 : Int) < _; decide), ?_⟩ | refine ⟨⟨by decide, by decide⟩, ?_⟩))
    refine ⟨_, a, l, xs, [1, 0, 3, 2], rfl, Tl.seq ha, SqL.of upd_same, hxs, by decide, fun e => absurd e (by rw [hb]; decide), fun e => absurd e (by rw [hb]; decide), fun H' S' => ?_⟩
    rw [if_neg (by rw [hb]; decide)]
    exact qa H' (Tl.trans S')
  (repeat (first | refine ⟨_, rfl, ?_⟩ | refine ⟨_, _, rfl, rfl, ?_⟩ | refine ⟨rfl, ?_⟩ | refine ⟨_, _, rfl, .inl (by assumption), ?_⟩ | refine ⟨Or.inl ⟨by decide, by decide⟩, ?_⟩ | refine ⟨(by show (0 : Int) < _; decide), ?_⟩ | refine ⟨⟨by decide, by decide⟩, ?_⟩))
  refine ite2 (fun _ => ?_) (fun _ => ?_)
  · (repeat (first | refine ⟨_, rfl, ?_⟩ | refine ⟨_, _, rfl, rfl, ?_⟩ | refine ⟨rfl, ?_⟩ | refine ⟨_, _, rfl, .inl (by assumption), ?_⟩ | refine ⟨Or.inl ⟨by decide, by decide⟩, ?_⟩ | refine ⟨(by show (0 : Int) < _; decide), ?_⟩ | refine ⟨⟨by decide, by decide⟩, ?_⟩))
    refine ⟨(by show 2 ≤ sizeLine; decide), fun l hl => ?_⟩
    have Tl := same_upd_new hl (.lst [.int 1, .int 0])
    (repeat (first | refine ⟨_, rfl, ?_⟩ | refine ⟨_, _, rfl, rfl, ?_⟩ | refine ⟨rfl, ?_⟩ | refine ⟨_, _, rfl, .inl (by assumption), ?_⟩ | refine ⟨Or.inl ⟨by decide, by decide⟩, ?_⟩ | refine ⟨(by show (0 : Int) < _; decide), ?_⟩ | refine ⟨⟨by decide, by decide⟩, ?_⟩))
    refine ⟨_, l, a, [1, 0], xs, rfl, SqL.of upd_same, Tl.seq ha, by decide, hxs, fun e => absurd e (by rw [hb]; simp), fun e => absurd e (by rw [hb]; simp), fun H' S' => ?_⟩
    rw [if_neg (by rw [hb]; simp)]
    exact qa H' (Tl.trans S')
  (repeat (first | refine ⟨_, rfl, ?_⟩ | refine ⟨_, _, rfl, rfl, ?_⟩ | refine ⟨rfl, ?_⟩ | refine ⟨_, _, rfl, .inl (by assumption), ?_⟩ | refine ⟨Or.inl ⟨by decide, by decide⟩, ?_⟩ | refine ⟨(by show (0 : Int) < _; decide), ?_⟩ | refine ⟨⟨by decide, by decide⟩, ?_⟩))
  refine ite2 (fun _ => ?_) (fun _ => ?_)
  · (repeat (first | refine ⟨_, rfl, ?_⟩ | refine ⟨_, _, rfl, rfl, ?_⟩ | refine ⟨rfl, ?_⟩ | refine ⟨_, _, rfl, .inl (by assumption), ?_⟩ | refine ⟨Or.inl ⟨by decide, by decide⟩, ?_⟩ | refine ⟨(by show (0 : Int) < _; decide), ?_⟩ | refine ⟨⟨by decide, by decide⟩, ?_⟩))
    exact ⟨a, xs, rfl, ha, hxs, hb, qa⟩
  (repeat (first | refine ⟨_, rfl, ?_⟩ | refine ⟨_, _, rfl, rfl, ?_⟩ | refine ⟨rfl, ?_⟩ | refine ⟨_, _, rfl, .inl (by assumption), ?_⟩ | refine ⟨Or.inl ⟨by decide, by decide⟩, ?_⟩ | refine ⟨(by show (0 : Int) < _; decide), ?_⟩ | refine ⟨⟨by decide, by decide⟩, ?_⟩))
  refine ite2 (fun _ => ?_) (fun _ => ?_)
  · (repeat (first | refine ⟨_, rfl, ?_⟩ | refine ⟨_, _, rfl, rfl, ?_⟩ | refine ⟨rfl, ?_⟩ | refine ⟨_, _, rfl, .inl (by assumption), ?_⟩ | refine ⟨Or.inl ⟨by decide, by decide⟩, ?_⟩ | refine ⟨(by show (0 : Int) < _; decide), ?_⟩ | refine ⟨⟨by decide, by decide⟩, ?_⟩))
    exact ⟨a, xs, _, rfl, ha, hxs, hb, qa⟩
  (repeat (first | refine ⟨_, rfl, ?_⟩ | refine ⟨_, _, rfl, rfl, ?_⟩ | refine ⟨rfl, ?_⟩ | refine ⟨_, _, rfl, .inl (by assumption), ?_⟩ | refine ⟨Or.inl ⟨by decide, by decide⟩, ?_⟩ | refine ⟨(by show (0 : Int) < _; decide), ?_⟩ | refine ⟨⟨by decide, by decide⟩, ?_⟩))
  refine ite2 (fun _ => ?_) (fun _ => ?_)
  · (repeat (first | refine ⟨_, rfl, ?_⟩ | refine ⟨_, _, rfl, rfl, ?_⟩ | refine ⟨rfl, ?_⟩ | refine ⟨_, _, rfl, .inl (by assumption), ?_⟩ | refine ⟨Or.inl ⟨by decide, by decide⟩, ?_⟩ | refine ⟨(by show (0 : Int) < _; decide), ?_⟩ | refine ⟨⟨by decide, by decide⟩, ?_⟩))
    exact ⟨a, xs, rfl, ha, hxs, hb, qa⟩
  (repeat (first | refine ⟨_, rfl, ?_⟩ | refine ⟨_, _, rfl, rfl, ?_⟩ | refine ⟨rfl, ?_⟩ | refine ⟨_, _, rfl, .inl (by assumption), ?_⟩ | refine ⟨Or.inl ⟨by decide, by decide⟩, ?_⟩ | refine ⟨(by show (0 : Int) < _; decide), ?_⟩ | refine ⟨⟨by decide, by decide⟩, ?_⟩))
  refine ite2 (fun _ => ?_) (fun _ => ?_)
  · (repeat (first | refine ⟨_, rfl, ?_⟩ | refine ⟨_, _, rfl, rfl, ?_⟩ | refine ⟨rfl, ?_⟩ | refine ⟨_, _, rfl, .inl (by assumption), ?_⟩ | refine ⟨Or.inl ⟨by decide, by decide⟩, ?_⟩ | refine ⟨(by show (0 : Int) < _; decide), ?_⟩ | refine ⟨⟨by decide, by decide⟩, ?_⟩))
    exact ⟨a, xs, rfl, ha, hxs, fun e => absurd e (by rw [hb]; decide), fun H' S' => by rw [if_neg (by rw [hb]; decide)]; exact qa H' S'⟩
  (repeat (first | refine ⟨_, rfl, ?_⟩ | refine ⟨_, _, rfl, rfl, ?_⟩ | refine ⟨rfl, ?_⟩ | refine ⟨_, _, rfl, .inl (by assumption), ?_⟩ | refine ⟨Or.inl ⟨by decide, by decide⟩, ?_⟩ | refine ⟨(by show (0 : Int) < _; decide), ?_⟩ | refine ⟨⟨by decide, by decide⟩, ?_⟩))
  refine ite2 (fun _ => ?_) (fun _ => ?_)
  · (repeat (first | refine ⟨_, rfl, ?_⟩ | refine ⟨_, _, rfl, rfl, ?_⟩ | refine ⟨rfl, ?_⟩ | refine ⟨_, _, rfl, .inl (by assumption), ?_⟩ | refine ⟨Or.inl ⟨by decide, by decide⟩, ?_⟩ | refine ⟨(by show (0 : Int) < _; decide), ?_⟩ | refine ⟨⟨by decide, by decide⟩, ?_⟩))
    exact ⟨a, xs, rfl, ha, hxs, hb, qa⟩
  (repeat (first | refine ⟨_, rfl, ?_⟩ | refine ⟨_, _, rfl, rfl, ?_⟩ | refine ⟨rfl, ?_⟩ | refine ⟨_, _, rfl, .inl (by assumption), ?_⟩ | refine ⟨Or.inl ⟨by decide, by decide⟩, ?_⟩ | refine ⟨(by show (0 : Int) < _; decide), ?_⟩ | refine ⟨⟨by decide, by decide⟩, ?_⟩))
  refine ite2 (fun _ => ?_) (fun _ => ?_)
  · (repeat (first | refine ⟨_, rfl, ?_⟩ | refine ⟨_, _, rfl, rfl, ?_⟩ | refine ⟨rfl, ?_⟩ | refine ⟨_, _, rfl, .inl (by assumption), ?_⟩ | refine ⟨Or.inl ⟨by decide, by decide⟩, ?_⟩ | refine ⟨(by show (0 : Int) < _; decide), ?_⟩ | refine ⟨⟨by decide, by decide⟩, ?_⟩))
    exact ⟨a, xs, rfl, ha, hxs, hb, qa⟩
  · (repeat (first | refine ⟨_, rfl, ?_⟩ | refine ⟨_, _, rfl, rfl, ?_⟩ | refine ⟨rfl, ?_⟩ | refine ⟨_, _, rfl, .inl (by assumption), ?_⟩ | refine ⟨Or.inl ⟨by decide, by decide⟩, ?_⟩ | refine ⟨(by show (0 : Int) < _; decide), ?_⟩ | refine ⟨⟨by decide, by decide⟩, ?_⟩))
    exact ⟨a, xs, rfl, ha, hxs, hb, qa⟩
end
theorem ok_law_no_arcs {CNoArcs CUnlike CTooMany : Addr} (F : FunD K "_law_no_arcs" "_law_no_arcs" s_law_no_arcs dV f fd) (c_law_of_two : Fn P w K mg base (CXE P w) "_law_of_two" ["way", "one", "other"] [] 9 (sp_law_of_two K CNoArcs CUnlike CTooMany)) (c_word_of : Fn P w K mg base (CXE P w) "word_of" ["arcs"] [] 5 (sp_word_of K CNoArcs)) (c_turned : Fn P w K mg base (CXE P w) "turned" ["arcs", "by"] [] 5 (sp_turned K CNoArcs)) (c_mirrored : Fn P w K mg base (CXE P w) "mirrored" ["arcs"] [] 5 (sp_mirrored K CNoArcs)) (c_covered : Fn P w K mg base (CXE P w) "covered" ["arcs"] [] 5 (sp_covered K CNoArcs CTooMany)) (c_number_of : Fn P w K mg base (CXE P w) "number_of" ["arcs"] [] 6 (sp_number_of K CNoArcs)) (c_one_road : Fn P w K mg base (CXE P w) "one_road" ["above"] [] 5 (sp_one_road K CNoArcs)) (c_closed : Fn P w K mg base (CXE P w) "closed" ["arcs"] [] 5 (sp_closed K CNoArcs)) (mrange : mg "range" = none) : FnOk P w K mg base (CXE P w) 10 f fd ["cell", "far"] (sp_law_no_arcs CNoArcs) := by
  refine F.okE (k := 9) sc_law_no_arcs (fun vs H Q E h => ?_) (fun cdv A outer s H vs Q E hr h => ?_)
  · obtain ⟨_, _, rfl, _⟩ := h; rfl
  obtain ⟨cell, far, rfl, hfar, qe⟩ := h
  have nd := sc_law_no_arcs.nd
  obtain ⟨t, h, q1⟩ := no_arcs_rest (H0 := H) (E := E) (outer := outer) (Q := Q) hr c_law_of_two c_word_of c_turned c_mirrored c_covered c_number_of c_one_road c_closed
  refine psso_in ?_
  refine ⟨_, psso_set (i := 2) nd rfl (Or.inl rfl) (pao_lst pao_nil (pao_lst (pao_int pao_nil) (pao_lst (pao_int (pao_int (pao_int pao_nil))) (pao_lst (pao_int (pao_int (pao_int (pao_int pao_nil)))) (pao_lst (pao_int (pao_int (pao_int (pao_int pao_nil)))) (pao_lst (pao_bin (pe_op op_add pe_int (pv 1)) (pao_int pao_nil)) (pao_lst (pao_un (pe_un un_neg pe_int) (pao_int pao_nil)) (pao_lst (pao_int (pao_int pao_nil))
    (pao_comp (pe_comp (compOk (N' := ["k"]) (js := [none]) (N := ["cell", "far", "some", "bad", "way"]) (sc := defScope s_law_no_arcs) rfl rfl rfl (by decide +kernel) (by decide +kernel) (by decide +kernel) rfl (by decide +kernel)) rfl (pi_range1 rfl mrange (pa_cons pe_int pa_nil)) (fun _ _ _ _ _ => (pg_name (i := 0) (show [("k" : PySem.Str)].Nodup by decide +kernel) rfl (Or.inl rfl))) (fun _ _ _ _ _ => pf_nil) (fun _ _ _ _ _ => (pe_op op_sub pe_int (pv 0)))) pao_nil)))))))))
    ⟨pss_cons (ps_set (i := 3) nd rfl (Or.inl rfl) (pe_ix ix_list (pv 2) (pe_op op_mod (pv 0) pe_int) (fun _ _ => rfl))) (pss_cons (ps_set (i := 4) nd rfl (Or.inl rfl) (pe_op op_mod (pe_op op_fdiv (pv 0) pe_int) pe_int)) h)⟩, ?_⟩
  (repeat (first | refine ⟨_, rfl, ?_⟩ | refine ⟨_, _, rfl, rfl, ?_⟩ | refine ⟨rfl, ?_⟩ | refine ⟨_, _, rfl, .inl (by assumption), ?_⟩ | refine ⟨Or.inl ⟨by decide, by decide⟩, ?_⟩ | refine ⟨(by show (0 : Int) < _; decide), ?_⟩ | refine ⟨⟨by decide, by decide⟩, ?_⟩))
  refine ⟨(by show 0 ≤ sizeLine; decide), fun r0 h0 => ?_⟩
  have T0 := same_upd_new h0 (.lst ([] : List V))
  have e0_1 : upd H r0 (.lst ([] : List V)) r0 = some (.lst (([] : List Int).map V.int)) := upd_same
  have SS1 : Same H (upd H r0 (.lst ([] : List V))) := T0
  generalize upd H r0 (.lst ([] : List V)) = G1 at SS1 e0_1 ⊢
  (repeat (first | refine ⟨_, rfl, ?_⟩ | refine ⟨_, _, rfl, rfl, ?_⟩ | refine ⟨rfl, ?_⟩ | refine ⟨_, _, rfl, .inl (by assumption), ?_⟩ | refine ⟨Or.inl ⟨by decide, by decide⟩, ?_⟩ | refine ⟨(by show (0 : Int) < _; decide), ?_⟩ | refine ⟨⟨by decide, by decide⟩, ?_⟩))
  refine ⟨(by show 1 ≤ sizeLine; decide), fun r1 h1 => ?_⟩
  have T1 := same_upd_new h1 (.lst [.int (0)])
  have e1_2 : upd G1 r1 (.lst [.int (0)]) r1 = some (.lst (([0] : List Int).map V.int)) := upd_same
  have SS2 : Same H (upd G1 r1 (.lst [.int (0)])) := SS1.trans T1
  have e0_2 := T1 _ _ e0_1
  generalize upd G1 r1 (.lst [.int (0)]) = G2 at SS2 e0_2 e1_2 ⊢
  (repeat (first | refine ⟨_, rfl, ?_⟩ | refine ⟨_, _, rfl, rfl, ?_⟩ | refine ⟨rfl, ?_⟩ | refine ⟨_, _, rfl, .inl (by assumption), ?_⟩ | refine ⟨Or.inl ⟨by decide, by decide⟩, ?_⟩ | refine ⟨(by show (0 : Int) < _; decide), ?_⟩ | refine ⟨⟨by decide, by decide⟩, ?_⟩))
  refine ⟨(by show 3 ≤ sizeLine; decide), fun r2 h2 => ?_⟩
  have T2 := same_upd_new h2 (.lst [.int (1), .int (0), .int (2)])
  have e2_3 : upd G2 r2 (.lst [.int (1), .int (0), .int (2)]) r2 = some (.lst (([1, 0, 2] : List Int).map V.int)) := upd_same
  have SS3 : Same H (upd G2 r2 (.lst [.int (1), .int (0), .int (2)])) := SS2.trans T2
  have e0_3 := T2 _ _ e0_2
  have e1_3 := T2 _ _ e1_2
  generalize upd G2 r2 (.lst [.int (1), .int (0), .int (2)]) = G3 at SS3 e0_3 e1_3 e2_3 ⊢
  (repeat (first | refine ⟨_, rfl, ?_⟩ | refine ⟨_, _, rfl, rfl, ?_⟩ | refine ⟨rfl, ?_⟩ | refine ⟨_, _, rfl, .inl (by assumption), ?_⟩ | refine ⟨Or.inl ⟨by decide, by decide⟩, ?_⟩ | refine ⟨(by show (0 : Int) < _; decide), ?_⟩ | refine ⟨⟨by decide, by decide⟩, ?_⟩))
  refine ⟨(by show 4 ≤ sizeLine; decide), fun r3 h3 => ?_⟩
  have T3 := same_upd_new h3 (.lst [.int (2), .int (3), .int (0), .int (1)])
  have e3_4 : upd G3 r3 (.lst [.int (2), .int (3), .int (0), .int (1)]) r3 = some (.lst (([2, 3, 0, 1] : List Int).map V.int)) := upd_same
  have SS4 : Same H (upd G3 r3 (.lst [.int (2), .int (3), .int (0), .int (1)])) := SS3.trans T3
  have e0_4 := T3 _ _ e0_3
  have e1_4 := T3 _ _ e1_3
  have e2_4 := T3 _ _ e2_3
  generalize upd G3 r3 (.lst [.int (2), .int (3), .int (0), .int (1)]) = G4 at SS4 e0_4 e1_4 e2_4 e3_4 ⊢
  (repeat (first | refine ⟨_, rfl, ?_⟩ | refine ⟨_, _, rfl, rfl, ?_⟩ | refine ⟨rfl, ?_⟩ | refine ⟨_, _, rfl, .inl (by assumption), ?_⟩ | refine ⟨Or.inl ⟨by decide, by decide⟩, ?_⟩ | refine ⟨(by show (0 : Int) < _; decide), ?_⟩ | refine ⟨⟨by decide, by decide⟩, ?_⟩))
  refine ⟨(by show 4 ≤ sizeLine; decide), fun r4 h4 => ?_⟩
  have T4 := same_upd_new h4 (.lst [.int (1), .int (0), .int (3), .int (4)])
  have e4_5 : upd G4 r4 (.lst [.int (1), .int (0), .int (3), .int (4)]) r4 = some (.lst (([1, 0, 3, 4] : List Int).map V.int)) := upd_same
  have SS5 : Same H (upd G4 r4 (.lst [.int (1), .int (0), .int (3), .int (4)])) := SS4.trans T4
  have e0_5 := T4 _ _ e0_4
  have e1_5 := T4 _ _ e1_4
  have e2_5 := T4 _ _ e2_4
  have e3_5 := T4 _ _ e3_4
  generalize upd G4 r4 (.lst [.int (1), .int (0), .int (3), .int (4)]) = G5 at SS5 e0_5 e1_5 e2_5 e3_5 e4_5 ⊢
  (repeat (first | refine ⟨_, rfl, ?_⟩ | refine ⟨_, _, rfl, rfl, ?_⟩ | refine ⟨rfl, ?_⟩ | refine ⟨_, _, rfl, .inl (by assumption), ?_⟩ | refine ⟨Or.inl ⟨by decide, by decide⟩, ?_⟩ | refine ⟨(by show (0 : Int) < _; decide), ?_⟩ | refine ⟨⟨by decide, by decide⟩, ?_⟩))
  refine ⟨(by show 2 ≤ sizeLine; decide), fun r5 h5 => ?_⟩
  have T5 := same_upd_new h5 (.lst [.int (1 + far), .int (0)])
  have e5_6 : upd G5 r5 (.lst [.int (1 + far), .int (0)]) r5 = some (.lst (([1 + far, 0] : List Int).map V.int)) := upd_same
  have SS6 : Same H (upd G5 r5 (.lst [.int (1 + far), .int (0)])) := SS5.trans T5
  have e0_6 := T5 _ _ e0_5
  have e1_6 := T5 _ _ e1_5
  have e2_6 := T5 _ _ e2_5
  have e3_6 := T5 _ _ e3_5
  have e4_6 := T5 _ _ e4_5
  generalize upd G5 r5 (.lst [.int (1 + far), .int (0)]) = G6 at SS6 e0_6 e1_6 e2_6 e3_6 e4_6 e5_6 ⊢
  (repeat (first | refine ⟨_, rfl, ?_⟩ | refine ⟨_, _, rfl, rfl, ?_⟩ | refine ⟨rfl, ?_⟩ | refine ⟨_, _, rfl, .inl (by assumption), ?_⟩ | refine ⟨Or.inl ⟨by decide, by decide⟩, ?_⟩ | refine ⟨(by show (0 : Int) < _; decide), ?_⟩ | refine ⟨⟨by decide, by decide⟩, ?_⟩))
  refine ⟨(by show 2 ≤ sizeLine; decide), fun r6 h6 => ?_⟩
  have T6 := same_upd_new h6 (.lst [.int (-1), .int (0)])
  have e6_7 : upd G6 r6 (.lst [.int (-1), .int (0)]) r6 = some (.lst (([-1, 0] : List Int).map V.int)) := upd_same
  have SS7 : Same H (upd G6 r6 (.lst [.int (-1), .int (0)])) := SS6.trans T6
  have e0_7 := T6 _ _ e0_6
  have e1_7 := T6 _ _ e1_6
  have e2_7 := T6 _ _ e2_6
  have e3_7 := T6 _ _ e3_6
  have e4_7 := T6 _ _ e4_6
  have e5_7 := T6 _ _ e5_6
  generalize upd G6 r6 (.lst [.int (-1), .int (0)]) = G7 at SS7 e0_7 e1_7 e2_7 e3_7 e4_7 e5_7 e6_7 ⊢
  (repeat (first | refine ⟨_, rfl, ?_⟩ | refine ⟨_, _, rfl, rfl, ?_⟩ | refine ⟨rfl, ?_⟩ | refine ⟨_, _, rfl, .inl (by assumption), ?_⟩ | refine ⟨Or.inl ⟨by decide, by decide⟩, ?_⟩ | refine ⟨(by show (0 : Int) < _; decide), ?_⟩ | refine ⟨⟨by decide, by decide⟩, ?_⟩))
  refine ⟨(by show 2 ≤ sizeLine; decide), fun r7 h7 => ?_⟩
  have T7 := same_upd_new h7 (.lst [.int (0), .int (1)])
  have e7_8 : upd G7 r7 (.lst [.int (0), .int (1)]) r7 = some (.lst (([0, 1] : List Int).map V.int)) := upd_same
  have SS8 : Same H (upd G7 r7 (.lst [.int (0), .int (1)])) := SS7.trans T7
  have e0_8 := T7 _ _ e0_7
  have e1_8 := T7 _ _ e1_7
  have e2_8 := T7 _ _ e2_7
  have e3_8 := T7 _ _ e3_7
  have e4_8 := T7 _ _ e4_7
  have e5_8 := T7 _ _ e5_7
  have e6_8 := T7 _ _ e6_7
  generalize upd G7 r7 (.lst [.int (0), .int (1)]) = G8 at SS8 e0_8 e1_8 e2_8 e3_8 e4_8 e5_8 e6_8 e7_8 ⊢
  (repeat (first | refine ⟨_, rfl, ?_⟩ | refine ⟨_, _, rfl, rfl, ?_⟩ | refine ⟨rfl, ?_⟩ | refine ⟨_, _, rfl, .inl (by assumption), ?_⟩ | refine ⟨Or.inl ⟨by decide, by decide⟩, ?_⟩ | refine ⟨(by show (0 : Int) < _; decide), ?_⟩ | refine ⟨⟨by decide, by decide⟩, ?_⟩))
  refine ⟨by decide, by decide, fun r8 h8 => ?_⟩
  refine comp_all 42 (fun i => .int (41 - (i : Int))) (fun σ => ∃ u, σ = [u]) (small60 (by omega)) ⟨_, rfl⟩ h8 (fun i H' hi _ => hi) (fun H' _ => Nat.le_refl _) ?_ ?_
  · rintro i x σ' H' H2 k hi ⟨u, rfl⟩ S' ⟨rfl, rfl⟩ hk
    have e0 : (0 : Int) + (i : Int) = i := by omega
    rw [e0]
    (repeat (first | refine ⟨_, rfl, ?_⟩ | refine ⟨_, _, rfl, rfl, ?_⟩ | refine ⟨rfl, ?_⟩ | refine ⟨_, _, rfl, .inl (by assumption), ?_⟩ | refine ⟨Or.inl ⟨by decide, by decide⟩, ?_⟩ | refine ⟨(by show (0 : Int) < _; decide), ?_⟩ | refine ⟨⟨by decide, by decide⟩, ?_⟩))
    exact hk _ _ _ ⟨_, rfl⟩ rfl (Same.refl _)
  intro G9 T8 c8
  have e8_9 : G9 r8 = some (.lst (((List.range 42).map fun i : Nat => 41 - (i : Int)).map V.int)) := by
    rw [c8, List.map_map]
    rfl
  have e0_9 := T8 _ _ e0_8
  have e1_9 := T8 _ _ e1_8
  have e2_9 := T8 _ _ e2_8
  have e3_9 := T8 _ _ e3_8
  have e4_9 := T8 _ _ e4_8
  have e5_9 := T8 _ _ e5_8
  have e6_9 := T8 _ _ e6_8
  have e7_9 := T8 _ _ e7_8
  have SS9 := SS8.trans T8
  refine ⟨(by show 9 ≤ sizeLine; decide), fun ls hls => ?_⟩
  have T9 := same_upd_new hls (.lst [.ref r0, .ref r1, .ref r2, .ref r3, .ref r4, .ref r5, .ref r6, .ref r7, .ref r8])
  have SSa := SS9.trans T9
  have els : upd G9 ls (.lst [.ref r0, .ref r1, .ref r2, .ref r3, .ref r4, .ref r5, .ref r6, .ref r7, .ref r8]) ls = some (.lst [.ref r0, .ref r1, .ref r2, .ref r3, .ref r4, .ref r5, .ref r6, .ref r7, .ref r8]) := upd_same
  have e0 := T9 _ _ e0_9
  have e1 := T9 _ _ e1_9
  have e2 := T9 _ _ e2_9
  have e3 := T9 _ _ e3_9
  have e4 := T9 _ _ e4_9
  have e5 := T9 _ _ e5_9
  have e6 := T9 _ _ e6_9
  have e7 := T9 _ _ e7_9
  have e8 := T9 _ _ e8_9
  generalize upd G9 ls (.lst [.ref r0, .ref r1, .ref r2, .ref r3, .ref r4, .ref r5, .ref r6, .ref r7, .ref r8]) = Ga at SSa els e0 e1 e2 e3 e4 e5 e6 e7 e8 ⊢
  have hbad : ∃ (a : Addr) (xs : List Int), atI [V.ref r0, .ref r1, .ref r2, .ref r3, .ref r4, .ref r5, .ref r6, .ref r7, .ref r8] (cell % 9) = some (.ref a) ∧ Ga a = some (.lst (xs.map V.int)) ∧ xs.length ≤ 1000 ∧ isArcsM xs = false := by
    have m0 := Int.emod_nonneg cell (show (9 : Int) ≠ 0 by decide)
    have m1 := Int.emod_lt_of_pos cell (show (0 : Int) < 9 by decide)
    have hc : cell % 9 = 0 ∨ cell % 9 = 1 ∨ cell % 9 = 2 ∨ cell % 9 = 3 ∨ cell % 9 = 4 ∨ cell % 9 = 5 ∨ cell % 9 = 6 ∨ cell % 9 = 7 ∨ cell % 9 = 8 := by omega
    rcases hc with z | z | z | z | z | z | z | z | z <;> rw [z]
    · exact ⟨r0, [], rfl, e0, (by show 0 ≤ 1000; decide), by decide +kernel⟩
    · exact ⟨r1, [0], rfl, e1, (by show 1 ≤ 1000; decide), by decide +kernel⟩
    · exact ⟨r2, [1, 0, 2], rfl, e2, (by show 3 ≤ 1000; decide), by decide +kernel⟩
    · exact ⟨r3, [2, 3, 0, 1], rfl, e3, (by show 4 ≤ 1000; decide), by decide +kernel⟩
    · exact ⟨r4, [1, 0, 3, 4], rfl, e4, (by show 4 ≤ 1000; decide), by decide +kernel⟩
    · exact ⟨r5, [1 + far, 0], rfl, e5, (by show 2 ≤ 1000; decide), far_no hfar⟩
    · exact ⟨r6, [-1, 0], rfl, e6, (by show 2 ≤ 1000; decide), by decide +kernel⟩
    · exact ⟨r7, [0, 1], rfl, e7, (by show 2 ≤ 1000; decide), by decide +kernel⟩
    · exact ⟨r8, (List.range 42).map fun i : Nat => 41 - (i : Int), rfl, e8, by rw [List.length_map, List.length_range]; decide, by decide +kernel⟩
  obtain ⟨a, xs, hat, ea, hxs, hb⟩ := hbad
  have ha : SqL K Ga a (xs.map V.int) := SqL.of ea
  (repeat (first | refine ⟨_, rfl, ?_⟩ | refine ⟨_, _, rfl, rfl, ?_⟩ | refine ⟨rfl, ?_⟩ | refine ⟨_, _, rfl, .inl (by assumption), ?_⟩ | refine ⟨Or.inl ⟨by decide, by decide⟩, ?_⟩ | refine ⟨(by show (0 : Int) < _; decide), ?_⟩ | refine ⟨⟨by decide, by decide⟩, ?_⟩))
  refine ⟨ls, _, _, .ref a, rfl, rfl, SqL.of els, hat, ?_⟩
  have qa : ∀ H', Same Ga H' → E (.ref CNoArcs) none H' := fun H' S' => qe H' (SSa.trans S')
  (repeat (first | refine ⟨_, rfl, ?_⟩ | refine ⟨_, _, rfl, rfl, ?_⟩ | refine ⟨rfl, ?_⟩ | refine ⟨_, _, rfl, .inl (by assumption), ?_⟩ | refine ⟨Or.inl ⟨by decide, by decide⟩, ?_⟩ | refine ⟨(by show (0 : Int) < _; decide), ?_⟩ | refine ⟨⟨by decide, by decide⟩, ?_⟩))
  exact q1 Ga cell far _ ls a xs ha hxs hb qa

theorem pao_ixl {X : Cx} {es es' : List Expr} {b : Expr} {pos pos2 : Pos} {tb : TE} {t t' : TA} (ha : PAo X es' t') (hb : PE X b tb) (hs : PlainIx b) (hr : PAo X es t) : PAo X (.Subscript (.List es' pos2) b pos :: es) (tCons (tOp (rIxL X.K) (tLst t') tb) t) := ⟨pa_cons (pe_ix ix_list (pe_lst ha.un) hb hs) hr.un rfl⟩
def sp_law_unlike (CU : Addr) : Sp := fun vs H Q E => ∃ (cell : Int), vs = [.int cell] ∧ ∀ H', Same H H' → E (.ref CU) none H'
theorem ok_law_unlike {CNoArcs CUnlike CTooMany : Addr} (F : FunD K "_law_unlike" "_law_unlike" s_law_unlike dV f fd) (c_law_of_two : Fn P w K mg base (CXE P w) "_law_of_two" ["way", "one", "other"] [] 9 (sp_law_of_two K CNoArcs CUnlike CTooMany)) : FnOk P w K mg base (CXE P w) 10 f fd ["cell"] (sp_law_unlike CUnlike) := by
  refine F.okE (k := 9) sc_law_unlike (fun vs H Q E h => ?_) (fun cdv A outer s H vs Q E hr h => ?_)
  · obtain ⟨_, rfl, _⟩ := h; rfl
  obtain ⟨cell, rfl, qe⟩ := h
  have nd := sc_law_unlike.nd
  refine psso_in ?_
  refine ⟨_, psso_set (i := 1) nd rfl (Or.inl rfl) (pao_ixl (pao_lst (pao_int (pao_int pao_nil)) (pao_lst (pao_int (pao_int (pao_int (pao_int pao_nil)))) pao_nil)) (pe_op op_mod (pe_op op_fdiv (pv 0) pe_int) pe_int) (fun _ _ => rfl) (pao_lst (pao_int (pao_int (pao_int (pao_int (pao_int (pao_int pao_nil)))))) pao_nil))
    ⟨pss_cons (ps_if (pt_cmpR op_eq (pe_op op_mod (pe_op op_fdiv (pv 0) pe_int) pe_int) pe_int (nomark _)) (pss_one (ps_expr (pe_bm0 PySem.F.plainAttrs_list PySem.F.slot_list_reverse PySem.F.type_list_reverse mt_reverse (pv 1)))) pss_nil)
      (pss_one (ps_expr (pe_fnX c_law_of_two hr (by decide) rfl passesE (pa_cons (pe_op op_add pe_int (pe_op op_mod (pv 0) pe_int)) (pa_cons (pe_ix ix_list (pv 1) pe_int (fun _ _ => rfl)) (pa_cons (pe_ix ix_list (pv 1) pe_int (fun _ _ => rfl)) pa_nil))))))⟩, ?_⟩
  have g1 : isArcsM [1, 0] = true := by decide +kernel
  have g2 : isArcsM [3, 2, 1, 0] = true := by decide +kernel
  have g3 : isArcsM [1, 0, 3, 2, 5, 4] = true := by decide +kernel
  (repeat (first | refine ⟨_, rfl, ?_⟩ | refine ⟨_, _, rfl, rfl, ?_⟩ | refine ⟨rfl, ?_⟩ | refine ⟨_, _, rfl, .inl (by assumption), ?_⟩ | refine ⟨Or.inl ⟨by decide, by decide⟩, ?_⟩ | refine ⟨(by show (0 : Int) < _; decide), ?_⟩ | refine ⟨⟨by decide, by decide⟩, ?_⟩))
  refine ⟨(by show 2 ≤ sizeLine; decide), fun r1 h1 => ?_⟩
  have T1 := same_upd_new h1 (.lst [.int 1, .int 0])
  (repeat (first | refine ⟨_, rfl, ?_⟩ | refine ⟨_, _, rfl, rfl, ?_⟩ | refine ⟨rfl, ?_⟩ | refine ⟨_, _, rfl, .inl (by assumption), ?_⟩ | refine ⟨Or.inl ⟨by decide, by decide⟩, ?_⟩ | refine ⟨(by show (0 : Int) < _; decide), ?_⟩ | refine ⟨⟨by decide, by decide⟩, ?_⟩))
  refine ⟨(by show 4 ≤ sizeLine; decide), fun r2 h2 => ?_⟩
  have T2 := same_upd_new h2 (.lst [.int 3, .int 2, .int 1, .int 0])
  (repeat (first | refine ⟨_, rfl, ?_⟩ | refine ⟨_, _, rfl, rfl, ?_⟩ | refine ⟨rfl, ?_⟩ | refine ⟨_, _, rfl, .inl (by assumption), ?_⟩ | refine ⟨Or.inl ⟨by decide, by decide⟩, ?_⟩ | refine ⟨(by show (0 : Int) < _; decide), ?_⟩ | refine ⟨⟨by decide, by decide⟩, ?_⟩))
  refine ⟨(by show 2 ≤ sizeLine; decide), fun r3 h3 => ?_⟩
  have T3 := same_upd_new h3 (.lst [.ref r1, .ref r2])
  have f1 := T3 _ _ (T2 _ _ (show upd H r1 (.lst [.int 1, .int 0]) r1 = _ from upd_same))
  have f2 := T3 _ _ (show upd (upd H r1 (.lst [.int 1, .int 0])) r2 (.lst [.int 3, .int 2, .int 1, .int 0]) r2 = _ from upd_same)
  have f3 : upd (upd (upd H r1 (.lst [.int 1, .int 0])) r2 (.lst [.int 3, .int 2, .int 1, .int 0])) r3 (.lst [.ref r1, .ref r2]) r3 = some (.lst [.ref r1, .ref r2]) := upd_same
  have S3 := T1.trans (T2.trans T3)
  generalize upd (upd (upd H r1 (.lst [.int 1, .int 0])) r2 (.lst [.int 3, .int 2, .int 1, .int 0])) r3 (.lst [.ref r1, .ref r2]) = H3 at f1 f2 f3 S3 ⊢
  have hsel : ∃ (a : Addr) (xs : List Int), atI [V.ref r1, .ref r2] (cell / 3 % 2) = some (.ref a) ∧ H3 a = some (.lst (xs.map V.int)) ∧ xs.length ≤ 4 ∧ isArcsM xs = true := by
    have hc : cell / 3 % 2 = 0 ∨ cell / 3 % 2 = 1 := by omega
    rcases hc with z | z <;> rw [z]
    · exact ⟨r1, [1, 0], rfl, f1, by decide, g1⟩
    · exact ⟨r2, [3, 2, 1, 0], rfl, f2, by decide, g2⟩
  obtain ⟨a, xs, hat, ea, hxs, hb⟩ := hsel
  (repeat (first | refine ⟨_, rfl, ?_⟩ | refine ⟨_, _, rfl, rfl, ?_⟩ | refine ⟨rfl, ?_⟩ | refine ⟨_, _, rfl, .inl (by assumption), ?_⟩ | refine ⟨Or.inl ⟨by decide, by decide⟩, ?_⟩ | refine ⟨(by show (0 : Int) < _; decide), ?_⟩ | refine ⟨⟨by decide, by decide⟩, ?_⟩))
  refine ⟨r3, _, _, .ref a, rfl, rfl, SqL.of f3, hat, ?_⟩
  (repeat (first | refine ⟨_, rfl, ?_⟩ | refine ⟨_, _, rfl, rfl, ?_⟩ | refine ⟨rfl, ?_⟩ | refine ⟨_, _, rfl, .inl (by assumption), ?_⟩ | refine ⟨Or.inl ⟨by decide, by decide⟩, ?_⟩ | refine ⟨(by show (0 : Int) < _; decide), ?_⟩ | refine ⟨⟨by decide, by decide⟩, ?_⟩))
  refine ⟨(by show 6 ≤ sizeLine; decide), fun r4 h4 => ?_⟩
  have T4 := same_upd_new h4 (.lst [.int 1, .int 0, .int 3, .int 2, .int 5, .int 4])
  (repeat (first | refine ⟨_, rfl, ?_⟩ | refine ⟨_, _, rfl, rfl, ?_⟩ | refine ⟨rfl, ?_⟩ | refine ⟨_, _, rfl, .inl (by assumption), ?_⟩ | refine ⟨Or.inl ⟨by decide, by decide⟩, ?_⟩ | refine ⟨(by show (0 : Int) < _; decide), ?_⟩ | refine ⟨⟨by decide, by decide⟩, ?_⟩))
  refine ⟨(by show 2 ≤ sizeLine; decide), fun r5 h5 => ?_⟩
  have T5 := same_upd_new h5 (.lst [.ref a, .ref r4])
  have ea5 := T5 _ _ (T4 _ _ ea)
  have e45 : upd (upd H3 r4 (.lst [.int 1, .int 0, .int 3, .int 2, .int 5, .int 4])) r5 (.lst [.ref a, .ref r4]) r4 = some (.lst (([1, 0, 3, 2, 5, 4] : List Int).map V.int)) := T5 _ _ upd_same
  have e5 : upd (upd H3 r4 (.lst [.int 1, .int 0, .int 3, .int 2, .int 5, .int 4])) r5 (.lst [.ref a, .ref r4]) r5 = some (.lst [.ref a, .ref r4]) := upd_same
  have S5 := S3.trans (T4.trans T5)
  have z5 : H r5 = none := S3.free (T4.free h5)
  have na : a ≠ r5 := ne_of_none (T4 _ _ ea) h5
  have n4 : r4 ≠ r5 := ne_of_none (show upd H3 r4 (.lst [.int 1, .int 0, .int 3, .int 2, .int 5, .int 4]) r4 = _ from upd_same) h5
  generalize upd (upd H3 r4 (.lst [.int 1, .int 0, .int 3, .int 2, .int 5, .int 4])) r5 (.lst [.ref a, .ref r4]) = H5 at ea5 e45 e5 S5 ⊢
  have w0 : (1 : Int) + cell % 3 ≠ 0 := by omega
  (repeat (first | refine ⟨_, rfl, ?_⟩ | refine ⟨_, _, rfl, rfl, ?_⟩ | refine ⟨rfl, ?_⟩ | refine ⟨_, _, rfl, .inl (by assumption), ?_⟩ | refine ⟨Or.inl ⟨by decide, by decide⟩, ?_⟩ | refine ⟨(by show (0 : Int) < _; decide), ?_⟩ | refine ⟨⟨by decide, by decide⟩, ?_⟩))
  refine ite2 (fun _ => ?_) (fun _ => ?_)
  · (repeat (first | refine ⟨_, rfl, ?_⟩ | refine ⟨_, _, rfl, rfl, ?_⟩ | refine ⟨rfl, ?_⟩ | refine ⟨_, _, rfl, .inl (by assumption), ?_⟩ | refine ⟨Or.inl ⟨by decide, by decide⟩, ?_⟩ | refine ⟨(by show (0 : Int) < _; decide), ?_⟩ | refine ⟨⟨by decide, by decide⟩, ?_⟩))
    refine ⟨.inl ⟨rfl, _, SqL.of e5⟩, ?_⟩
    refine ⟨r5, _, rfl, rfl, e5, ?_⟩
    have S6 := S5.upd z5 (.lst [.ref a, .ref r4].reverse)
    have ea6 : upd H5 r5 (.lst [V.ref a, .ref r4].reverse) a = some (.lst (xs.map V.int)) := by rw [upd_ne na]; exact ea5
    have e46 : upd H5 r5 (.lst [V.ref a, .ref r4].reverse) r4 = some (.lst (([1, 0, 3, 2, 5, 4] : List Int).map V.int)) := by rw [upd_ne n4]; exact e45
    (repeat (first | refine ⟨_, rfl, ?_⟩ | refine ⟨_, _, rfl, rfl, ?_⟩ | refine ⟨rfl, ?_⟩ | refine ⟨_, _, rfl, .inl (by assumption), ?_⟩ | refine ⟨Or.inl ⟨by decide, by decide⟩, ?_⟩ | refine ⟨(by show (0 : Int) < _; decide), ?_⟩ | refine ⟨⟨by decide, by decide⟩, ?_⟩))
    refine ⟨r5, _, _, .ref r4, rfl, rfl, SqL.of upd_same, rfl, ?_⟩
    (repeat (first | refine ⟨_, rfl, ?_⟩ | refine ⟨_, _, rfl, rfl, ?_⟩ | refine ⟨rfl, ?_⟩ | refine ⟨_, _, rfl, .inl (by assumption), ?_⟩ | refine ⟨Or.inl ⟨by decide, by decide⟩, ?_⟩ | refine ⟨(by show (0 : Int) < _; decide), ?_⟩ | refine ⟨⟨by decide, by decide⟩, ?_⟩))
    refine ⟨r5, _, _, .ref a, rfl, rfl, SqL.of upd_same, rfl, ?_⟩
    (repeat (first | refine ⟨_, rfl, ?_⟩ | refine ⟨_, _, rfl, rfl, ?_⟩ | refine ⟨rfl, ?_⟩ | refine ⟨_, _, rfl, .inl (by assumption), ?_⟩ | refine ⟨Or.inl ⟨by decide, by decide⟩, ?_⟩ | refine ⟨(by show (0 : Int) < _; decide), ?_⟩ | refine ⟨⟨by decide, by decide⟩, ?_⟩))
    refine ⟨_, r4, a, [1, 0, 3, 2, 5, 4], xs, rfl, SqL.of e46, SqL.of ea6, by decide, by omega, fun _ z => absurd z w0, fun _ _ => by show 6 ≠ xs.length; omega, fun H' S' => ?_⟩
    rw [if_pos (by rw [hb, g3]; rfl), if_neg w0]
    exact qe H' (S6.trans S')
  · (repeat (first | refine ⟨_, rfl, ?_⟩ | refine ⟨_, _, rfl, rfl, ?_⟩ | refine ⟨rfl, ?_⟩ | refine ⟨_, _, rfl, .inl (by assumption), ?_⟩ | refine ⟨Or.inl ⟨by decide, by decide⟩, ?_⟩ | refine ⟨(by show (0 : Int) < _; decide), ?_⟩ | refine ⟨⟨by decide, by decide⟩, ?_⟩))
    refine ⟨r5, _, _, .ref a, rfl, rfl, SqL.of e5, rfl, ?_⟩
    (repeat (first | refine ⟨_, rfl, ?_⟩ | refine ⟨_, _, rfl, rfl, ?_⟩ | refine ⟨rfl, ?_⟩ | refine ⟨_, _, rfl, .inl (by assumption), ?_⟩ | refine ⟨Or.inl ⟨by decide, by decide⟩, ?_⟩ | refine ⟨(by show (0 : Int) < _; decide), ?_⟩ | refine ⟨⟨by decide, by decide⟩, ?_⟩))
    refine ⟨r5, _, _, .ref r4, rfl, rfl, SqL.of e5, rfl, ?_⟩
    (repeat (first | refine ⟨_, rfl, ?_⟩ | refine ⟨_, _, rfl, rfl, ?_⟩ | refine ⟨rfl, ?_⟩ | refine ⟨_, _, rfl, .inl (by assumption), ?_⟩ | refine ⟨Or.inl ⟨by decide, by decide⟩, ?_⟩ | refine ⟨(by show (0 : Int) < _; decide), ?_⟩ | refine ⟨⟨by decide, by decide⟩, ?_⟩))
    refine ⟨_, a, r4, xs, [1, 0, 3, 2, 5, 4], rfl, SqL.of ea5, SqL.of e45, by omega, by decide, fun _ z => absurd z w0, fun _ _ => by show xs.length ≠ 6; omega, fun H' S' => ?_⟩
    rw [if_pos (by rw [hb, g3]; rfl), if_neg w0]
    exact qe H' (S5.trans S')

theorem four_at (p q r s : Int) {i : Int} (h0 : 0 ≤ i) (h : i < 4) : ∃ v, atI [V.int p, .int q, .int r, .int s] i = some (.int v) ∧ (v = p ∨ v = q ∨ v = r ∨ v = s) := by
  have hc : i = 0 ∨ i = 1 ∨ i = 2 ∨ i = 3 := by omega
  rcases hc with z | z | z | z <;> rw [z]
  · exact ⟨p, rfl, .inl rfl⟩
  · exact ⟨q, rfl, .inr (.inl rfl)⟩
  · exact ⟨r, rfl, .inr (.inr (.inl rfl))⟩
  · exact ⟨s, rfl, .inr (.inr (.inr rfl))⟩
theorem three_at (p q r : Int) {i : Int} (h0 : 0 ≤ i) (h : i < 3) : ∃ v, atI [V.int p, .int q, .int r] i = some (.int v) ∧ (v = p ∨ v = q ∨ v = r) := by
  have hc : i = 0 ∨ i = 1 ∨ i = 2 := by omega
  rcases hc with z | z | z <;> rw [z]
  · exact ⟨p, rfl, .inl rfl⟩
  · exact ⟨q, rfl, .inr (.inl rfl)⟩
  · exact ⟨r, rfl, .inr (.inr rfl)⟩
theorem two_at (p q : Int) {i : Int} (h0 : 0 ≤ i) (h : i < 2) : ∃ v, atI [V.int p, .int q] i = some (.int v) ∧ (v = p ∨ v = q) := by
  have hc : i = 0 ∨ i = 1 := by omega
  rcases hc with z | z <;> rw [z]
  · exact ⟨p, rfl, .inl rfl⟩
  · exact ⟨q, rfl, .inr rfl⟩
def sp_law_no_number (CN : Addr) : Sp := fun vs H Q E => ∃ (cell far : Int), vs = [.int cell, .int far] ∧ 0 ≤ far ∧ ∀ H', Same H H' → E (.ref CN) none H'
theorem ok_law_no_number {CNoNumber : Addr} (F : FunD K "_law_no_number" "_law_no_number" s_law_no_number dV f fd) (c_many : Fn P w K mg base (CXE P w) "many" ["size"] [] 3 (sp_many CNoNumber)) (c_arcs_at : Fn P w K mg base (CXE P w) "arcs_at" ["size", "number"] [] 4 (sp_arcs_at CNoNumber)) (c_straight : Fn P w K mg base (CXE P w) "straight" ["size"] [] 3 (sp_straight CNoNumber)) (c_hook : Fn P w K mg base (CXE P w) "hook" ["size", "j"] [] 4 (sp_hook CNoNumber)) (c_rows_with : Fn P w K mg base (CXE P w) "rows_with" ["size", "roads"] [] 2 (sp_rows_with CNoNumber)) : FnOk P w K mg base (CXE P w) 5 f fd ["cell", "far"] (sp_law_no_number CNoNumber) := by
  refine F.okE (k := 4) sc_law_no_number (fun vs H Q E h => ?_) (fun cdv A outer s H vs Q E hr h => ?_)
  · obtain ⟨_, _, rfl, _⟩ := h; rfl
  obtain ⟨cell, far, rfl, hfar, qe⟩ := h
  have nd := sc_law_no_number.nd
  refine ⟨_, (pss_cons (ps_set (i := 2) nd rfl (Or.inl rfl) (pe_ix ix_list (pe_lst (pa_cons pe_int (pa_cons pe_int (pa_cons (pe_op op_sub (pe_un un_neg pe_int) (pv 1)) (pa_cons (pe_op op_add pe_int (pv 1)) pa_nil))))) (pe_op op_mod (pv 0) pe_int) (fun _ _ => rfl)))
  (pss_cons (ps_set (i := 3) nd rfl (Or.inl rfl) (pe_op op_mod (pe_op op_fdiv (pv 0) pe_int) pe_int))
  (pss_one (ps_if (pt_cmpR op_eq (pv 3) pe_int (nomark _)) (pss_one (ps_expr (pe_fnX c_many hr (by decide) rfl passesE (pa_cons (pv 2) pa_nil)))) (pss_one (ps_if (pt_cmpR op_eq (pv 3) pe_int (nomark _)) (pss_one (ps_expr (pe_fnX c_arcs_at hr (by decide) rfl passesE (pa_cons (pv 2) (pa_cons (pe_un un_neg pe_int) pa_nil))))) (pss_one (ps_if (pt_cmpR op_eq (pv 3) pe_int (nomark _)) (pss_one (ps_expr (pe_fnX c_arcs_at hr (by decide) rfl passesE (pa_cons pe_int (pa_cons (pe_ix ix_list (pe_lst (pa_cons (pe_un un_neg pe_int) (pa_cons pe_int (pa_cons (pe_op op_sub (pe_un un_neg pe_int) (pv 1)) (pa_cons (pe_op op_add pe_int (pv 1)) pa_nil))))) (pe_op op_mod (pe_op op_fdiv (pv 0) pe_int) pe_int) (fun _ _ => rfl)) pa_nil))))) (pss_one (ps_if (pt_cmpR op_eq (pv 3) pe_int (nomark _)) (pss_one (ps_expr (pe_fnX c_straight hr (by decide) rfl passesE (pa_cons (pv 2) pa_nil)))) (pss_one (ps_if (pt_cmpR op_eq (pv 3) pe_int (nomark _)) (pss_one (ps_expr (pe_fnX c_hook hr (by decide) rfl passesE (pa_cons (pv 2) (pa_cons pe_int pa_nil))))) (pss_one (ps_if (pt_cmpR op_eq (pv 3) pe_int (nomark _)) (pss_cons (ps_set (i := 2) nd rfl (Or.inl rfl) (pe_ix ix_list (pe_lst (pa_cons pe_int (pa_cons pe_int (pa_cons pe_int pa_nil)))) (pe_op op_mod (pe_op op_fdiv (pv 0) pe_int) pe_int) (fun _ _ => rfl)))
  (pss_one (ps_expr (pe_fnX c_hook hr (by decide) rfl passesE (pa_cons (pv 2) (pa_cons (pe_ix ix_list (pe_lst (pa_cons (pe_un un_neg pe_int) (pa_cons (pe_op op_sub (pv 2) pe_int) (pa_cons (pe_op op_add (pv 2) (pv 1)) (pa_cons (pe_op op_sub (pe_un un_neg pe_int) (pv 1)) pa_nil))))) (pe_op op_mod (pe_op op_fdiv (pv 0) pe_int) pe_int) (fun _ _ => rfl)) pa_nil)))))) (pss_one (ps_if (pt_cmpR op_eq (pv 3) pe_int (nomark _)) (pss_one (ps_expr (pe_fnX c_rows_with hr (by decide) rfl passesE (pa_cons (pe_ix ix_list (pe_lst (pa_cons (pv 2) (pa_cons pe_int pa_nil))) (pe_op op_mod (pe_op op_fdiv (pv 0) pe_int) pe_int) (fun _ _ => rfl)) (pa_cons pe_int pa_nil))))) (pss_one (ps_expr (pe_fnX c_rows_with hr (by decide) rfl passesE (pa_cons pe_int (pa_cons (pe_ix ix_list (pe_lst (pa_cons pe_int (pa_cons pe_int (pa_cons (pe_op op_sub (pe_un un_neg pe_int) (pv 1)) (pa_cons (pe_op op_add pe_int (pv 1)) pa_nil))))) (pe_op op_mod (pe_op op_fdiv (pv 0) pe_int) pe_int) (fun _ _ => rfl)) pa_nil))))))))))))))))))))), ?_⟩
  (repeat (first | refine ⟨_, rfl, ?_⟩ | refine ⟨_, _, rfl, rfl, ?_⟩ | refine ⟨rfl, ?_⟩ | refine ⟨_, _, rfl, .inl (by assumption), ?_⟩ | refine ⟨Or.inl ⟨by decide, by decide⟩, ?_⟩ | refine ⟨(by show (0 : Int) < _; decide), ?_⟩ | refine ⟨⟨by decide, by decide⟩, ?_⟩))
  refine ⟨(by show 4 ≤ sizeLine; decide), fun l1 h1 => ?_⟩
  have T1 := same_upd_new h1 (.lst [.int 0, .int 21, .int (-1 - far), .int (21 + far)])
  obtain ⟨sz, hsz, hsz'⟩ := four_at 0 21 (-1 - far) (21 + far) (i := cell % 4) (by omega) (by omega)
  have hbad : ¬ (1 ≤ sz ∧ sz ≤ 20) := by omega
  (repeat (first | refine ⟨_, rfl, ?_⟩ | refine ⟨_, _, rfl, rfl, ?_⟩ | refine ⟨rfl, ?_⟩ | refine ⟨_, _, rfl, .inl (by assumption), ?_⟩ | refine ⟨Or.inl ⟨by decide, by decide⟩, ?_⟩ | refine ⟨(by show (0 : Int) < _; decide), ?_⟩ | refine ⟨⟨by decide, by decide⟩, ?_⟩))
  refine ⟨l1, _, _, .int sz, rfl, rfl, SqL.of upd_same, hsz, ?_⟩
  generalize upd H l1 (.lst [.int 0, .int 21, .int (-1 - far), .int (21 + far)]) = H1 at T1 ⊢
  have q1 : ∀ H', Same H1 H' → E (.ref CNoNumber) none H' := fun H' S' => qe H' (T1.trans S')
  (repeat (first | refine ⟨_, rfl, ?_⟩ | refine ⟨_, _, rfl, rfl, ?_⟩ | refine ⟨rfl, ?_⟩ | refine ⟨_, _, rfl, .inl (by assumption), ?_⟩ | refine ⟨Or.inl ⟨by decide, by decide⟩, ?_⟩ | refine ⟨(by show (0 : Int) < _; decide), ?_⟩ | refine ⟨⟨by decide, by decide⟩, ?_⟩))
  refine ite2 (fun _ => ?_) (fun _ => ?_)
  · (repeat (first | refine ⟨_, rfl, ?_⟩ | refine ⟨_, _, rfl, rfl, ?_⟩ | refine ⟨rfl, ?_⟩ | refine ⟨_, _, rfl, .inl (by assumption), ?_⟩ | refine ⟨Or.inl ⟨by decide, by decide⟩, ?_⟩ | refine ⟨(by show (0 : Int) < _; decide), ?_⟩ | refine ⟨⟨by decide, by decide⟩, ?_⟩))
    exact .inr ⟨hbad, q1 H1 (Same.refl _)⟩
  (repeat (first | refine ⟨_, rfl, ?_⟩ | refine ⟨_, _, rfl, rfl, ?_⟩ | refine ⟨rfl, ?_⟩ | refine ⟨_, _, rfl, .inl (by assumption), ?_⟩ | refine ⟨Or.inl ⟨by decide, by decide⟩, ?_⟩ | refine ⟨(by show (0 : Int) < _; decide), ?_⟩ | refine ⟨⟨by decide, by decide⟩, ?_⟩))
  refine ite2 (fun _ => ?_) (fun _ => ?_)
  · (repeat (first | refine ⟨_, rfl, ?_⟩ | refine ⟨_, _, rfl, rfl, ?_⟩ | refine ⟨rfl, ?_⟩ | refine ⟨_, _, rfl, .inl (by assumption), ?_⟩ | refine ⟨Or.inl ⟨by decide, by decide⟩, ?_⟩ | refine ⟨(by show (0 : Int) < _; decide), ?_⟩ | refine ⟨⟨by decide, by decide⟩, ?_⟩))
    first | exact q1 | exact ⟨sz, -1, rfl, .inl hbad, q1⟩
  (repeat (first | refine ⟨_, rfl, ?_⟩ | refine ⟨_, _, rfl, rfl, ?_⟩ | refine ⟨rfl, ?_⟩ | refine ⟨_, _, rfl, .inl (by assumption), ?_⟩ | refine ⟨Or.inl ⟨by decide, by decide⟩, ?_⟩ | refine ⟨(by show (0 : Int) < _; decide), ?_⟩ | refine ⟨⟨by decide, by decide⟩, ?_⟩))
  refine ite2 (fun _ => ?_) (fun _ => ?_)
  · (repeat (first | refine ⟨_, rfl, ?_⟩ | refine ⟨_, _, rfl, rfl, ?_⟩ | refine ⟨rfl, ?_⟩ | refine ⟨_, _, rfl, .inl (by assumption), ?_⟩ | refine ⟨Or.inl ⟨by decide, by decide⟩, ?_⟩ | refine ⟨(by show (0 : Int) < _; decide), ?_⟩ | refine ⟨⟨by decide, by decide⟩, ?_⟩))
    refine ⟨(by show 4 ≤ sizeLine; decide), fun l2 h2 => ?_⟩
    have T2 := same_upd_new h2 (.lst [.int (-1), .int 5, .int (-1 - far), .int (5 + far)])
    obtain ⟨v, hv, hv'⟩ := four_at (-1) 5 (-1 - far) (5 + far) (i := cell / 32 % 4) (by omega) (by omega)
    (repeat (first | refine ⟨_, rfl, ?_⟩ | refine ⟨_, _, rfl, rfl, ?_⟩ | refine ⟨rfl, ?_⟩ | refine ⟨_, _, rfl, .inl (by assumption), ?_⟩ | refine ⟨Or.inl ⟨by decide, by decide⟩, ?_⟩ | refine ⟨(by show (0 : Int) < _; decide), ?_⟩ | refine ⟨⟨by decide, by decide⟩, ?_⟩))
    refine ⟨l2, _, _, .int v, rfl, rfl, SqL.of upd_same, hv, ?_⟩
    (repeat (first | refine ⟨_, rfl, ?_⟩ | refine ⟨_, _, rfl, rfl, ?_⟩ | refine ⟨rfl, ?_⟩ | refine ⟨_, _, rfl, .inl (by assumption), ?_⟩ | refine ⟨Or.inl ⟨by decide, by decide⟩, ?_⟩ | refine ⟨(by show (0 : Int) < _; decide), ?_⟩ | refine ⟨⟨by decide, by decide⟩, ?_⟩))
    exact ⟨3, v, rfl, .inr ⟨rfl, by omega⟩, fun H' S' => q1 H' (T2.trans S')⟩
  (repeat (first | refine ⟨_, rfl, ?_⟩ | refine ⟨_, _, rfl, rfl, ?_⟩ | refine ⟨rfl, ?_⟩ | refine ⟨_, _, rfl, .inl (by assumption), ?_⟩ | refine ⟨Or.inl ⟨by decide, by decide⟩, ?_⟩ | refine ⟨(by show (0 : Int) < _; decide), ?_⟩ | refine ⟨⟨by decide, by decide⟩, ?_⟩))
  refine ite2 (fun _ => ?_) (fun _ => ?_)
  · (repeat (first | refine ⟨_, rfl, ?_⟩ | refine ⟨_, _, rfl, rfl, ?_⟩ | refine ⟨rfl, ?_⟩ | refine ⟨_, _, rfl, .inl (by assumption), ?_⟩ | refine ⟨Or.inl ⟨by decide, by decide⟩, ?_⟩ | refine ⟨(by show (0 : Int) < _; decide), ?_⟩ | refine ⟨⟨by decide, by decide⟩, ?_⟩))
    exact ⟨fun h => absurd h hbad, fun _ => q1 H1 (Same.refl _)⟩
  (repeat (first | refine ⟨_, rfl, ?_⟩ | refine ⟨_, _, rfl, rfl, ?_⟩ | refine ⟨rfl, ?_⟩ | refine ⟨_, _, rfl, .inl (by assumption), ?_⟩ | refine ⟨Or.inl ⟨by decide, by decide⟩, ?_⟩ | refine ⟨(by show (0 : Int) < _; decide), ?_⟩ | refine ⟨⟨by decide, by decide⟩, ?_⟩))
  refine ite2 (fun _ => ?_) (fun _ => ?_)
  · (repeat (first | refine ⟨_, rfl, ?_⟩ | refine ⟨_, _, rfl, rfl, ?_⟩ | refine ⟨rfl, ?_⟩ | refine ⟨_, _, rfl, .inl (by assumption), ?_⟩ | refine ⟨Or.inl ⟨by decide, by decide⟩, ?_⟩ | refine ⟨(by show (0 : Int) < _; decide), ?_⟩ | refine ⟨⟨by decide, by decide⟩, ?_⟩))
    exact ⟨sz, 0, rfl, fun h => absurd h hbad, q1⟩
  (repeat (first | refine ⟨_, rfl, ?_⟩ | refine ⟨_, _, rfl, rfl, ?_⟩ | refine ⟨rfl, ?_⟩ | refine ⟨_, _, rfl, .inl (by assumption), ?_⟩ | refine ⟨Or.inl ⟨by decide, by decide⟩, ?_⟩ | refine ⟨(by show (0 : Int) < _; decide), ?_⟩ | refine ⟨⟨by decide, by decide⟩, ?_⟩))
  refine ite2 (fun _ => ?_) (fun _ => ?_)
  · (repeat (first | refine ⟨_, rfl, ?_⟩ | refine ⟨_, _, rfl, rfl, ?_⟩ | refine ⟨rfl, ?_⟩ | refine ⟨_, _, rfl, .inl (by assumption), ?_⟩ | refine ⟨Or.inl ⟨by decide, by decide⟩, ?_⟩ | refine ⟨(by show (0 : Int) < _; decide), ?_⟩ | refine ⟨⟨by decide, by decide⟩, ?_⟩))
    refine ⟨(by show 3 ≤ sizeLine; decide), fun l2 h2 => ?_⟩
    have T2 := same_upd_new h2 (.lst [.int 1, .int 3, .int 2])
    obtain ⟨v, hv, hv'⟩ := three_at 1 3 2 (i := cell / 32 % 3) (by omega) (by omega)
    (repeat (first | refine ⟨_, rfl, ?_⟩ | refine ⟨_, _, rfl, rfl, ?_⟩ | refine ⟨rfl, ?_⟩ | refine ⟨_, _, rfl, .inl (by assumption), ?_⟩ | refine ⟨Or.inl ⟨by decide, by decide⟩, ?_⟩ | refine ⟨(by show (0 : Int) < _; decide), ?_⟩ | refine ⟨⟨by decide, by decide⟩, ?_⟩))
    refine ⟨l2, _, _, .int v, rfl, rfl, SqL.of upd_same, hv, ?_⟩
    (repeat (first | refine ⟨_, rfl, ?_⟩ | refine ⟨_, _, rfl, rfl, ?_⟩ | refine ⟨rfl, ?_⟩ | refine ⟨_, _, rfl, .inl (by assumption), ?_⟩ | refine ⟨Or.inl ⟨by decide, by decide⟩, ?_⟩ | refine ⟨(by show (0 : Int) < _; decide), ?_⟩ | refine ⟨⟨by decide, by decide⟩, ?_⟩))
    refine ⟨(by show 4 ≤ sizeLine; decide), fun l3 h3 => ?_⟩
    have T3 := T2.trans (same_upd_new h3 (.lst [.int (-1), .int (v - 1), .int (v + far), .int (-1 - far)]))
    obtain ⟨j, hj, hj'⟩ := four_at (-1) (v - 1) (v + far) (-1 - far) (i := cell / 96 % 4) (by omega) (by omega)
    (repeat (first | refine ⟨_, rfl, ?_⟩ | refine ⟨_, _, rfl, rfl, ?_⟩ | refine ⟨rfl, ?_⟩ | refine ⟨_, _, rfl, .inl (by assumption), ?_⟩ | refine ⟨Or.inl ⟨by decide, by decide⟩, ?_⟩ | refine ⟨(by show (0 : Int) < _; decide), ?_⟩ | refine ⟨⟨by decide, by decide⟩, ?_⟩))
    refine ⟨l3, _, _, .int j, rfl, rfl, SqL.of upd_same, hj, ?_⟩
    (repeat (first | refine ⟨_, rfl, ?_⟩ | refine ⟨_, _, rfl, rfl, ?_⟩ | refine ⟨rfl, ?_⟩ | refine ⟨_, _, rfl, .inl (by assumption), ?_⟩ | refine ⟨Or.inl ⟨by decide, by decide⟩, ?_⟩ | refine ⟨(by show (0 : Int) < _; decide), ?_⟩ | refine ⟨⟨by decide, by decide⟩, ?_⟩))
    exact ⟨v, j, rfl, fun _ => by omega, fun H' S' => q1 H' (T3.trans S')⟩
  (repeat (first | refine ⟨_, rfl, ?_⟩ | refine ⟨_, _, rfl, rfl, ?_⟩ | refine ⟨rfl, ?_⟩ | refine ⟨_, _, rfl, .inl (by assumption), ?_⟩ | refine ⟨Or.inl ⟨by decide, by decide⟩, ?_⟩ | refine ⟨(by show (0 : Int) < _; decide), ?_⟩ | refine ⟨⟨by decide, by decide⟩, ?_⟩))
  refine ite2 (fun _ => ?_) (fun _ => ?_)
  · (repeat (first | refine ⟨_, rfl, ?_⟩ | refine ⟨_, _, rfl, rfl, ?_⟩ | refine ⟨rfl, ?_⟩ | refine ⟨_, _, rfl, .inl (by assumption), ?_⟩ | refine ⟨Or.inl ⟨by decide, by decide⟩, ?_⟩ | refine ⟨(by show (0 : Int) < _; decide), ?_⟩ | refine ⟨⟨by decide, by decide⟩, ?_⟩))
    refine ⟨(by show 2 ≤ sizeLine; decide), fun l2 h2 => ?_⟩
    have T2 := same_upd_new h2 (.lst [.int sz, .int 6])
    obtain ⟨v, hv, hv'⟩ := two_at sz 6 (i := cell / 32 % 2) (by omega) (by omega)
    (repeat (first | refine ⟨_, rfl, ?_⟩ | refine ⟨_, _, rfl, rfl, ?_⟩ | refine ⟨rfl, ?_⟩ | refine ⟨_, _, rfl, .inl (by assumption), ?_⟩ | refine ⟨Or.inl ⟨by decide, by decide⟩, ?_⟩ | refine ⟨(by show (0 : Int) < _; decide), ?_⟩ | refine ⟨⟨by decide, by decide⟩, ?_⟩))
    refine ⟨l2, _, _, .int v, rfl, rfl, SqL.of upd_same, hv, ?_⟩
    (repeat (first | refine ⟨_, rfl, ?_⟩ | refine ⟨_, _, rfl, rfl, ?_⟩ | refine ⟨rfl, ?_⟩ | refine ⟨_, _, rfl, .inl (by assumption), ?_⟩ | refine ⟨Or.inl ⟨by decide, by decide⟩, ?_⟩ | refine ⟨(by show (0 : Int) < _; decide), ?_⟩ | refine ⟨⟨by decide, by decide⟩, ?_⟩))
    exact ⟨v, 1, rfl, fun h => by omega, q1 _ T2⟩
  · (repeat (first | refine ⟨_, rfl, ?_⟩ | refine ⟨_, _, rfl, rfl, ?_⟩ | refine ⟨rfl, ?_⟩ | refine ⟨_, _, rfl, .inl (by assumption), ?_⟩ | refine ⟨Or.inl ⟨by decide, by decide⟩, ?_⟩ | refine ⟨(by show (0 : Int) < _; decide), ?_⟩ | refine ⟨⟨by decide, by decide⟩, ?_⟩))
    refine ⟨(by show 4 ≤ sizeLine; decide), fun l2 h2 => ?_⟩
    have T2 := same_upd_new h2 (.lst [.int 0, .int 4, .int (-1 - far), .int (4 + far)])
    obtain ⟨v, hv, hv'⟩ := four_at 0 4 (-1 - far) (4 + far) (i := cell / 32 % 4) (by omega) (by omega)
    (repeat (first | refine ⟨_, rfl, ?_⟩ | refine ⟨_, _, rfl, rfl, ?_⟩ | refine ⟨rfl, ?_⟩ | refine ⟨_, _, rfl, .inl (by assumption), ?_⟩ | refine ⟨Or.inl ⟨by decide, by decide⟩, ?_⟩ | refine ⟨(by show (0 : Int) < _; decide), ?_⟩ | refine ⟨⟨by decide, by decide⟩, ?_⟩))
    refine ⟨l2, _, _, .int v, rfl, rfl, SqL.of upd_same, hv, ?_⟩
    (repeat (first | refine ⟨_, rfl, ?_⟩ | refine ⟨_, _, rfl, rfl, ?_⟩ | refine ⟨rfl, ?_⟩ | refine ⟨_, _, rfl, .inl (by assumption), ?_⟩ | refine ⟨Or.inl ⟨by decide, by decide⟩, ?_⟩ | refine ⟨(by show (0 : Int) < _; decide), ?_⟩ | refine ⟨⟨by decide, by decide⟩, ?_⟩))
    exact ⟨3, v, rfl, fun _ => by omega, q1 _ T2⟩

-- CUT 5 6
def sp_law (K : PySem.W.Frag) : Sp := fun vs H Q _ => ∃ (a : Addr) (ns : List Int), vs = [.ref a] ∧ SqL K H a (ns.map V.int) ∧ ns.length ≤ 63 ∧ ∀ H', Q (.bl true) H'
theorem no_read {z : Str} (h : z.cps.toList.length % 2 = 1 ∨ z.cps.toList.length = 0 ∨ z.cps.toList[z.cps.toList.length - 1]? = some 40 ∨ z.cps.toList[0]? = some 91) : ∀ n g, ¬ Reads z n g := fun n g ⟨e, A, h2, h0, h1⟩ => by
  have hl : z.cps.toList.length = n := by rw [e, word_length]
  rw [e] at h
  rw [word_length] at h
  rcases h with h | h | h | h
  · omega
  · omega
  · rw [word_get (show n - 1 < n by omega)] at h
    have lt := A.lt (n - 1) (by omega)
    rw [if_neg (by omega)] at h
    cases h
  · rw [word_get (show 0 < n by omega)] at h
    split at h <;> cases h
def flags (v : Int) : List V := [.bl (decide (v = 0)), .bl (decide (v = 1)), .bl (decide (v = 2)), .bl (decide (v = 3)), .bl (decide (v = 4)), .bl true]
theorem fl0 (v : Int) : decide (v = 0) = decide (((0 : Nat) : Int) = v ∨ (0 : Nat) = 5) := decide_eq_decide.mpr ⟨fun h => .inl (by omega), fun h => h.elim (fun y => by omega) (fun y => by omega)⟩
theorem fl1 (v : Int) : decide (v = 1) = decide (((1 : Nat) : Int) = v ∨ (1 : Nat) = 5) := decide_eq_decide.mpr ⟨fun h => .inl (by omega), fun h => h.elim (fun y => by omega) (fun y => by omega)⟩
theorem fl2 (v : Int) : decide (v = 2) = decide (((2 : Nat) : Int) = v ∨ (2 : Nat) = 5) := decide_eq_decide.mpr ⟨fun h => .inl (by omega), fun h => h.elim (fun y => by omega) (fun y => by omega)⟩
theorem fl3 (v : Int) : decide (v = 3) = decide (((3 : Nat) : Int) = v ∨ (3 : Nat) = 5) := decide_eq_decide.mpr ⟨fun h => .inl (by omega), fun h => h.elim (fun y => by omega) (fun y => by omega)⟩
theorem fl4 (v : Int) : decide (v = 4) = decide (((4 : Nat) : Int) = v ∨ (4 : Nat) = 5) := decide_eq_decide.mpr ⟨fun h => .inl (by omega), fun h => h.elim (fun y => by omega) (fun y => by omega)⟩
section
variable {cdv : Value} {A : Around} {outer : List Env} {s : Shared} {H0 : Hp} {Q : VK} {E : XK}
theorem law_end (hr : Room 10 (A.deeper (PyProof.Rows.envOfC "law" (defScope s_law) s.heap.objs.size f cdv))) (mrange : mg "range" = none) (q : ∀ H', Q (.bl true) H') :
    ∃ t : TS, PSs (cxOf CX0 P w K mg base ["script", "way", "cell", "far", "full", "told", "e"] "law" (defScope s_law) f cdv A outer s H0 E).nox ((defBody s_law).drop 6) t ∧
      ∀ (H : Hp) (a r : Addr) (v : Int) (u1 u2 u3 u4 : Option V), H r = some (.lst (flags v)) →
        t { nx := fun _ H' => Q .non H', rt := Q } [some (.ref a), some (.int v), u1, u2, u3, some (.ref r), u4] H := by
  have nd := sc_law.nd
  refine ⟨_, (pss_one (ps_ret (pe_cmpR (op_eqT hr.units) (pv 5) (pe_comp (compOk (N' := ["k", "way"]) (js := [none, some 1]) (N := ["script", "way", "cell", "far", "full", "told", "e"]) (sc := defScope s_law) rfl rfl rfl (by decide +kernel) (by decide +kernel) (by decide +kernel) rfl (by decide +kernel)) rfl (pi_range1 rfl mrange (pa_cons pe_int pa_nil)) (fun _ _ _ _ _ => (pg_name (i := 0) (show [("k" : PySem.Str), ("way" : PySem.Str)].Nodup by decide +kernel) rfl (Or.inl rfl))) (fun _ _ _ _ _ => pf_nil) (fun _ _ _ _ _ => (pe_or (pe_cmpR op_eq (pv 0) (pv 1) (nomark _)) (pe_one (pe_cmpR op_eq (pv 0) pe_int (nomark _)))))) (nomark _)))), ?_⟩
  intro H a r v u1 u2 u3 u4 er
  (repeat (first | refine ⟨_, rfl, ?_⟩ | refine ⟨_, _, rfl, rfl, ?_⟩ | refine ⟨rfl, ?_⟩ | refine ⟨_, _, rfl, .inl (by assumption), ?_⟩ | refine ⟨Or.inl ⟨by decide, by decide⟩, ?_⟩ | refine ⟨(by show (0 : Int) < _; decide), ?_⟩ | refine ⟨⟨by decide, by decide⟩, ?_⟩))
  refine ⟨by decide, by decide, fun p hp => ?_⟩
  refine comp_all 6 (fun i => .bl (decide ((i : Int) = v ∨ i = 5))) (fun σ => ∃ u, σ = [u, some (.int v)]) (small60 (by omega)) ⟨_, rfl⟩ hp (fun i H' hi _ => hi) (fun H' _ => Nat.le_refl _) ?_ ?_
  · rintro i x σ' H' H2 k hi ⟨u, rfl⟩ S' ⟨rfl, rfl⟩ hk
    have e0 : (0 : Int) + (i : Int) = i := by omega
    rw [e0]
    (repeat (first | refine ⟨_, rfl, ?_⟩ | refine ⟨_, _, rfl, rfl, ?_⟩ | refine ⟨rfl, ?_⟩ | refine ⟨_, _, rfl, .inl (by assumption), ?_⟩ | refine ⟨Or.inl ⟨by decide, by decide⟩, ?_⟩ | refine ⟨(by show (0 : Int) < _; decide), ?_⟩ | refine ⟨⟨by decide, by decide⟩, ?_⟩))
    refine ite2 (fun c => ?_) (fun c => ?_)
    · have c' := eq_yes c
      exact hk _ _ _ ⟨_, rfl⟩ (by first | rw [c] | skip; show V.bl true = V.bl _; exact congrArg V.bl (decide_eq_true (p := (i : Int) = v ∨ i = 5) (.inl c')).symm) (Same.refl _)
    · have c' := eq_no c
      (repeat (first | refine ⟨_, rfl, ?_⟩ | refine ⟨_, _, rfl, rfl, ?_⟩ | refine ⟨rfl, ?_⟩ | refine ⟨_, _, rfl, .inl (by assumption), ?_⟩ | refine ⟨Or.inl ⟨by decide, by decide⟩, ?_⟩ | refine ⟨(by show (0 : Int) < _; decide), ?_⟩ | refine ⟨⟨by decide, by decide⟩, ?_⟩))
      refine hk _ _ _ ⟨_, rfl⟩ ?_ (Same.refl _)
      show V.bl _ = V.bl _
      congr 1
      by_cases z : i = 5
      · rw [decide_eq_true (p := (i : Int) = v ∨ i = 5) (.inr z)]
        exact decide_eq_true (by rw [z]; rfl)
      · rw [decide_eq_false (p := (i : Int) = v ∨ i = 5) (fun y => y.elim c' z)]
        exact decide_eq_false (fun y => z (by have e := V.int.inj y; omega))
  intro H1 S1 c1
  have er1 := S1 _ _ er
  (repeat (first | refine ⟨_, rfl, ?_⟩ | refine ⟨_, _, rfl, rfl, ?_⟩ | refine ⟨rfl, ?_⟩ | refine ⟨_, _, rfl, .inl (by assumption), ?_⟩ | refine ⟨Or.inl ⟨by decide, by decide⟩, ?_⟩ | refine ⟨(by show (0 : Int) < _; decide), ?_⟩ | refine ⟨⟨by decide, by decide⟩, ?_⟩))
  have tr := EqT.lists (K := K) (H := H1) (n := 8) (e := fun _ => true) (SqL.of er1) (SqL.of c1) rfl (fun j x y ex ey => ?_)
  · refine ⟨true, tr, ?_⟩
    exact q H1
  · have flat : ∀ b b' : Bool, b = b' → EqD K H1 8 (.bl b) (.bl b') true := fun b b' h => by
      subst h
      have := EqD.flat (K := K) (H := H1) (n := 8) (x := .bl b) (y := .bl b) rfl rfl
      rwa [show eqV (.bl b) (.bl b) = true from beq_self_eq_true b] at this
    match j, ex, ey with
    | 0, ex, ey => cases ex; cases ey; exact flat _ _ (fl0 v)
    | 1, ex, ey => cases ex; cases ey; exact flat _ _ (fl1 v)
    | 2, ex, ey => cases ex; cases ey; exact flat _ _ (fl2 v)
    | 3, ex, ey => cases ex; cases ey; exact flat _ _ (fl3 v)
    | 4, ex, ey => cases ex; cases ey; exact flat _ _ (fl4 v)
    | 5, ex, ey => cases ex; cases ey; exact flat _ _ (decide_eq_true (.inr rfl)).symm
    | j + 6, ex, _ => simp [flags] at ex
theorem law_try {CRiverError CNoArcs CNoNumber CUnlike CTooMany CNotRead : Addr} (hr : Room 10 (A.deeper (PyProof.Rows.envOfC "law" (defScope s_law) s.heap.objs.size f cdv))) {t : TS}
    (h : PSs (cxOf CX0 P w K mg base ["script", "way", "cell", "far", "full", "told", "e"] "law" (defScope s_law) f cdv A outer s H0 E).nox ((defBody s_law).drop 6) t)
    (qh : ∀ (H : Hp) (a r : Addr) (v : Int) (u1 u2 u3 u4 : Option V), H r = some (.lst (flags v)) →
        t { nx := fun _ H' => Q .non H', rt := Q } [some (.ref a), some (.int v), u1, u2, u3, some (.ref r), u4] H)
    (c_law_no_arcs : Fn P w K mg base (CXE P w) "_law_no_arcs" ["cell", "far"] [] 10 (sp_law_no_arcs CNoArcs)) (c_law_no_number : Fn P w K mg base (CXE P w) "_law_no_number" ["cell", "far"] [] 5 (sp_law_no_number CNoNumber)) (c_law_unlike : Fn P w K mg base (CXE P w) "_law_unlike" ["cell"] [] 10 (sp_law_unlike CUnlike)) (c_covered : Fn P w K mg base (CXE P w) "covered" ["arcs"] [] 5 (sp_covered K CNoArcs CTooMany)) (c_law_of_two : Fn P w K mg base (CXE P w) "_law_of_two" ["way", "one", "other"] [] 9 (sp_law_of_two K CNoArcs CUnlike CTooMany)) (c_arcs_of : Fn P w K mg base (CXE P w) "arcs_of" ["word"] [] 2 (sp_arcs_of CNotRead)) (c_law_which : FnM P w K mg base "_law_which" ["e"] 1 (sp_law_which K CNoArcs CNoNumber CUnlike CTooMany CNotRead)) (mRiverError : mg "RiverError" = some (.ref CRiverError))
    (eAx : ExcC K CNoArcs) (hxma : PySem.W.exmOne K (.ref CNoArcs) (.ref CRiverError) = some true) (kaa : PySem.W.kitOne K (.ref CNoArcs) (.ref CNoArcs) = some true) (kab : PySem.W.kitOne K (.ref CNoArcs) (.ref CNoNumber) = some false) (kac : PySem.W.kitOne K (.ref CNoArcs) (.ref CUnlike) = some false) (kad : PySem.W.kitOne K (.ref CNoArcs) (.ref CTooMany) = some false) (kae : PySem.W.kitOne K (.ref CNoArcs) (.ref CNotRead) = some false) (kaf : PySem.W.kitOne K (.ref CNoArcs) (.type "ValueError") = some true) (eBx : ExcC K CNoNumber) (hxmb : PySem.W.exmOne K (.ref CNoNumber) (.ref CRiverError) = some true) (kba : PySem.W.kitOne K (.ref CNoNumber) (.ref CNoArcs) = some false) (kbb : PySem.W.kitOne K (.ref CNoNumber) (.ref CNoNumber) = some true) (kbc : PySem.W.kitOne K (.ref CNoNumber) (.ref CUnlike) = some false) (kbd : PySem.W.kitOne K (.ref CNoNumber) (.ref CTooMany) = some false) (kbe : PySem.W.kitOne K (.ref CNoNumber) (.ref CNotRead) = some false) (kbf : PySem.W.kitOne K (.ref CNoNumber) (.type "ValueError") = some true) (eCx : ExcC K CUnlike) (hxmc : PySem.W.exmOne K (.ref CUnlike) (.ref CRiverError) = some true) (kca : PySem.W.kitOne K (.ref CUnlike) (.ref CNoArcs) = some false) (kcb : PySem.W.kitOne K (.ref CUnlike) (.ref CNoNumber) = some false) (kcc : PySem.W.kitOne K (.ref CUnlike) (.ref CUnlike) = some true) (kcd : PySem.W.kitOne K (.ref CUnlike) (.ref CTooMany) = some false) (kce : PySem.W.kitOne K (.ref CUnlike) (.ref CNotRead) = some false) (kcf : PySem.W.kitOne K (.ref CUnlike) (.type "ValueError") = some true) (eDx : ExcC K CTooMany) (hxmd : PySem.W.exmOne K (.ref CTooMany) (.ref CRiverError) = some true) (kda : PySem.W.kitOne K (.ref CTooMany) (.ref CNoArcs) = some false) (kdb : PySem.W.kitOne K (.ref CTooMany) (.ref CNoNumber) = some false) (kdc : PySem.W.kitOne K (.ref CTooMany) (.ref CUnlike) = some false) (kdd : PySem.W.kitOne K (.ref CTooMany) (.ref CTooMany) = some true) (kde : PySem.W.kitOne K (.ref CTooMany) (.ref CNotRead) = some false) (kdf : PySem.W.kitOne K (.ref CTooMany) (.type "ValueError") = some true) (eEx : ExcC K CNotRead) (hxme : PySem.W.exmOne K (.ref CNotRead) (.ref CRiverError) = some true) (kea : PySem.W.kitOne K (.ref CNotRead) (.ref CNoArcs) = some false) (keb : PySem.W.kitOne K (.ref CNotRead) (.ref CNoNumber) = some false) (kec : PySem.W.kitOne K (.ref CNotRead) (.ref CUnlike) = some false) (ked : PySem.W.kitOne K (.ref CNotRead) (.ref CTooMany) = some false) (kee : PySem.W.kitOne K (.ref CNotRead) (.ref CNotRead) = some true) (kef : PySem.W.kitOne K (.ref CNotRead) (.type "ValueError") = some true) :
    ∃ t : TS, PSs (cxOf CX0 P w K mg base ["script", "way", "cell", "far", "full", "told", "e"] "law" (defScope s_law) f cdv A outer s H0 E).nox ((defBody s_law).drop 5) t ∧
      ∀ (H : Hp) (a lf r0 : Addr) (v cell far : Int), 0 ≤ v → v < 5 → 0 ≤ far → H lf = some (.lst ((tab 40 (st 20)).map V.int)) →
        t { nx := fun _ H' => Q .non H', rt := Q } [some (.ref a), some (.int v), some (.int cell), some (.int far), some (.ref lf), some (.ref r0), none] H := by
  have nd := sc_law.nd
  refine ⟨_, (pss_cons (ps_try (i := 6) (cls := .ref CRiverError) ⟨rfl, rfl, rfl⟩ nd rfl rfl rfl mRiverError rfl (fun W Ex pins σ hp => (pssAt_one (psAt_if (pt_cmpR op_eq (pv 1) pe_int (nomark _)) (pssAt_one (psAt_expr (peAt_fn c_law_no_arcs hr (by decide) rfl hp (pa_cons (pv 2) (pa_cons (pe_op op_add (pv 3) pe_int) pa_nil))))) (pssAt_one (psAt_if (pt_cmpR op_eq (pv 1) pe_int (nomark _)) (pssAt_one (psAt_expr (peAt_fn c_law_no_number hr (by decide) rfl hp (pa_cons (pv 2) (pa_cons (pv 3) pa_nil))))) (pssAt_one (psAt_if (pt_cmpR op_eq (pv 1) pe_int (nomark _)) (pssAt_one (psAt_expr (peAt_fn c_law_unlike hr (by decide) rfl hp (pa_cons (pv 2) pa_nil)))) (pssAt_one (psAt_if (PW.pt (pw_and (pt_cmpR op_eq (pv 1) pe_int (nomark _)) (pw_and1 (pt_cmpR op_eq (pe_op op_mod (pv 2) pe_int) pe_int (nomark _))))) (pssAt_one (psAt_expr (peAt_fn c_covered hr (by decide) rfl hp (pa_cons (pv 4) pa_nil)))) (pssAt_one (psAt_if (pt_cmpR op_eq (pv 1) pe_int (nomark _)) (pssAt_one (psAt_expr (peAt_fn c_law_of_two hr (by decide) rfl hp (pa_cons pe_int (pa_cons (pe_ix (ix_listK (K := K) rfl) (pe_lst (pa_cons (pv 4) (pa_cons (pe_lst (pa_cons pe_int (pa_cons pe_int pa_nil))) pa_nil))) (pe_op op_sub (pe_op op_mod (pv 2) pe_int) pe_int) (fun _ _ => rfl)) (pa_cons (pe_ix (ix_listK (K := K) rfl) (pe_lst (pa_cons (pe_lst (pa_cons pe_int (pa_cons pe_int pa_nil))) (pa_cons (pv 4) pa_nil))) (pe_op op_sub (pe_op op_mod (pv 2) pe_int) pe_int) (fun _ _ => rfl)) pa_nil)))))) (pssAt_one (psAt_expr (peAt_fn c_arcs_of hr (by decide) rfl hp (pa_cons (pe_ix (ix_listK (K := K) rfl) (pe_lst (pa_cons pe_str (pa_cons pe_str (pa_cons pe_str (pa_cons pe_str (pa_cons pe_str (pa_cons pe_str (pa_cons pe_str (pa_cons pe_str pa_nil))))))))) (pe_op op_mod (pv 2) pe_int) (fun _ _ => rfl)) pa_nil))))))))))))))) (fun _ => (pss_one (ps_set (i := 5) nd rfl (Or.inl rfl) (pe_fnM c_law_which hr (by decide) rfl (pa_cons (pv 6) pa_nil))))))
  h), ?_⟩
  intro H a lf r0 v cell far v0 v1 hfar elf
  have gf : isArcsM (tab 40 (st 20)) = true := isArcs_tab (st_arcs 20) (by decide) (by decide) (by decide)
  have g1 : isArcsM [1, 0] = true := by decide +kernel
  have lf40 : (tab 40 (st 20)).length = 40 := tab_length _ _
  (repeat (first | refine ⟨_, rfl, ?_⟩ | refine ⟨_, _, rfl, rfl, ?_⟩ | refine ⟨rfl, ?_⟩ | refine ⟨_, _, rfl, .inl (by assumption), ?_⟩ | refine ⟨Or.inl ⟨by decide, by decide⟩, ?_⟩ | refine ⟨(by show (0 : Int) < _; decide), ?_⟩ | refine ⟨⟨by decide, by decide⟩, ?_⟩))
  refine ite2 (fun c => ?_) (fun c0 => ?_)
  · have hv0 : v = 0 := eq_yes c
    (repeat (first | refine ⟨_, rfl, ?_⟩ | refine ⟨_, _, rfl, rfl, ?_⟩ | refine ⟨rfl, ?_⟩ | refine ⟨_, _, rfl, .inl (by assumption), ?_⟩ | refine ⟨Or.inl ⟨by decide, by decide⟩, ?_⟩ | refine ⟨(by show (0 : Int) < _; decide), ?_⟩ | refine ⟨⟨by decide, by decide⟩, ?_⟩))
    refine ⟨cell, far + 1, rfl, by omega, fun H' S' => ?_⟩
    refine ⟨CNoArcs, rfl, hxma, fun x hx => ?_⟩
    (repeat (first | refine ⟨_, rfl, ?_⟩ | refine ⟨_, _, rfl, rfl, ?_⟩ | refine ⟨rfl, ?_⟩ | refine ⟨_, _, rfl, .inl (by assumption), ?_⟩ | refine ⟨Or.inl ⟨by decide, by decide⟩, ?_⟩ | refine ⟨(by show (0 : Int) < _; decide), ?_⟩ | refine ⟨⟨by decide, by decide⟩, ?_⟩))
    refine ⟨x, CNoArcs, true, false, false, false, false, true, rfl, upd_same, eAx, kaa, kab, kac, kad, kae, kaf, fun r H3 S3 e3 => ?_⟩
    exact qh H3 a r v _ _ _ _ (by rw [e3]; unfold flags; rw [hv0]; rfl)
  (repeat (first | refine ⟨_, rfl, ?_⟩ | refine ⟨_, _, rfl, rfl, ?_⟩ | refine ⟨rfl, ?_⟩ | refine ⟨_, _, rfl, .inl (by assumption), ?_⟩ | refine ⟨Or.inl ⟨by decide, by decide⟩, ?_⟩ | refine ⟨(by show (0 : Int) < _; decide), ?_⟩ | refine ⟨⟨by decide, by decide⟩, ?_⟩))
  refine ite2 (fun c => ?_) (fun c1 => ?_)
  · have hv1 : v = 1 := eq_yes c
    (repeat (first | refine ⟨_, rfl, ?_⟩ | refine ⟨_, _, rfl, rfl, ?_⟩ | refine ⟨rfl, ?_⟩ | refine ⟨_, _, rfl, .inl (by assumption), ?_⟩ | refine ⟨Or.inl ⟨by decide, by decide⟩, ?_⟩ | refine ⟨(by show (0 : Int) < _; decide), ?_⟩ | refine ⟨⟨by decide, by decide⟩, ?_⟩))
    refine ⟨cell, far, rfl, hfar, fun H' S' => ?_⟩
    refine ⟨CNoNumber, rfl, hxmb, fun x hx => ?_⟩
    (repeat (first | refine ⟨_, rfl, ?_⟩ | refine ⟨_, _, rfl, rfl, ?_⟩ | refine ⟨rfl, ?_⟩ | refine ⟨_, _, rfl, .inl (by assumption), ?_⟩ | refine ⟨Or.inl ⟨by decide, by decide⟩, ?_⟩ | refine ⟨(by show (0 : Int) < _; decide), ?_⟩ | refine ⟨⟨by decide, by decide⟩, ?_⟩))
    refine ⟨x, CNoNumber, false, true, false, false, false, true, rfl, upd_same, eBx, kba, kbb, kbc, kbd, kbe, kbf, fun r H3 S3 e3 => ?_⟩
    exact qh H3 a r v _ _ _ _ (by rw [e3]; unfold flags; rw [hv1]; rfl)
  (repeat (first | refine ⟨_, rfl, ?_⟩ | refine ⟨_, _, rfl, rfl, ?_⟩ | refine ⟨rfl, ?_⟩ | refine ⟨_, _, rfl, .inl (by assumption), ?_⟩ | refine ⟨Or.inl ⟨by decide, by decide⟩, ?_⟩ | refine ⟨(by show (0 : Int) < _; decide), ?_⟩ | refine ⟨⟨by decide, by decide⟩, ?_⟩))
  refine ite2 (fun c => ?_) (fun c2 => ?_)
  · have hv2 : v = 2 := eq_yes c
    (repeat (first | refine ⟨_, rfl, ?_⟩ | refine ⟨_, _, rfl, rfl, ?_⟩ | refine ⟨rfl, ?_⟩ | refine ⟨_, _, rfl, .inl (by assumption), ?_⟩ | refine ⟨Or.inl ⟨by decide, by decide⟩, ?_⟩ | refine ⟨(by show (0 : Int) < _; decide), ?_⟩ | refine ⟨⟨by decide, by decide⟩, ?_⟩))
    intro H' S'
    refine ⟨CUnlike, rfl, hxmc, fun x hx => ?_⟩
    (repeat (first | refine ⟨_, rfl, ?_⟩ | refine ⟨_, _, rfl, rfl, ?_⟩ | refine ⟨rfl, ?_⟩ | refine ⟨_, _, rfl, .inl (by assumption), ?_⟩ | refine ⟨Or.inl ⟨by decide, by decide⟩, ?_⟩ | refine ⟨(by show (0 : Int) < _; decide), ?_⟩ | refine ⟨⟨by decide, by decide⟩, ?_⟩))
    refine ⟨x, CUnlike, false, false, true, false, false, true, rfl, upd_same, eCx, kca, kcb, kcc, kcd, kce, kcf, fun r H3 S3 e3 => ?_⟩
    exact qh H3 a r v _ _ _ _ (by rw [e3]; unfold flags; rw [hv2]; rfl)
  by_cases d : v = 3
  · have hv3 : v = 3 := d
    (repeat (first | refine ⟨_, rfl, ?_⟩ | refine ⟨_, _, rfl, rfl, ?_⟩ | refine ⟨rfl, ?_⟩ | refine ⟨_, _, rfl, .inl (by assumption), ?_⟩ | refine ⟨Or.inl ⟨by decide, by decide⟩, ?_⟩ | refine ⟨(by show (0 : Int) < _; decide), ?_⟩ | refine ⟨⟨by decide, by decide⟩, ?_⟩))
    refine ite2 (fun _ => ?_) (fun y => absurd (decide_eq_true (congrArg V.int d)) y)
    (repeat (first | refine ⟨_, rfl, ?_⟩ | refine ⟨_, _, rfl, rfl, ?_⟩ | refine ⟨rfl, ?_⟩ | refine ⟨_, _, rfl, .inl (by assumption), ?_⟩ | refine ⟨Or.inl ⟨by decide, by decide⟩, ?_⟩ | refine ⟨(by show (0 : Int) < _; decide), ?_⟩ | refine ⟨⟨by decide, by decide⟩, ?_⟩))
    refine ite2 (fun c => ?_) (fun c3 => ?_)
    · (repeat (first | refine ⟨_, rfl, ?_⟩ | refine ⟨_, _, rfl, rfl, ?_⟩ | refine ⟨rfl, ?_⟩ | refine ⟨_, _, rfl, .inl (by assumption), ?_⟩ | refine ⟨Or.inl ⟨by decide, by decide⟩, ?_⟩ | refine ⟨(by show (0 : Int) < _; decide), ?_⟩ | refine ⟨⟨by decide, by decide⟩, ?_⟩))
      refine ⟨lf, tab 40 (st 20), rfl, SqL.of elf, by rw [lf40]; decide, fun _ => by rw [lf40]; decide, fun H' S' => ?_⟩
      rw [if_pos gf]
      refine ⟨CTooMany, rfl, hxmd, fun x hx => ?_⟩
      (repeat (first | refine ⟨_, rfl, ?_⟩ | refine ⟨_, _, rfl, rfl, ?_⟩ | refine ⟨rfl, ?_⟩ | refine ⟨_, _, rfl, .inl (by assumption), ?_⟩ | refine ⟨Or.inl ⟨by decide, by decide⟩, ?_⟩ | refine ⟨(by show (0 : Int) < _; decide), ?_⟩ | refine ⟨⟨by decide, by decide⟩, ?_⟩))
      refine ⟨x, CTooMany, false, false, false, true, false, true, rfl, upd_same, eDx, kda, kdb, kdc, kdd, kde, kdf, fun r H3 S3 e3 => ?_⟩
      exact qh H3 a r v _ _ _ _ (by rw [e3]; unfold flags; rw [hv3]; rfl)
    · have hm : ¬ cell % 3 = 0 := eq_no c3
      (repeat (first | refine ⟨_, rfl, ?_⟩ | refine ⟨_, _, rfl, rfl, ?_⟩ | refine ⟨rfl, ?_⟩ | refine ⟨_, _, rfl, .inl (by assumption), ?_⟩ | refine ⟨Or.inl ⟨by decide, by decide⟩, ?_⟩ | refine ⟨(by show (0 : Int) < _; decide), ?_⟩ | refine ⟨⟨by decide, by decide⟩, ?_⟩))
      refine ite2 (fun _ => ?_) (fun y => absurd (decide_eq_true (congrArg V.int d)) y)
      (repeat (first | refine ⟨_, rfl, ?_⟩ | refine ⟨_, _, rfl, rfl, ?_⟩ | refine ⟨rfl, ?_⟩ | refine ⟨_, _, rfl, .inl (by assumption), ?_⟩ | refine ⟨Or.inl ⟨by decide, by decide⟩, ?_⟩ | refine ⟨(by show (0 : Int) < _; decide), ?_⟩ | refine ⟨⟨by decide, by decide⟩, ?_⟩))
      refine ⟨(by show 2 ≤ sizeLine; decide), fun l1 h1 => ?_⟩
      have T1 := same_upd_new h1 (.lst [.int 1, .int 0])
      (repeat (first | refine ⟨_, rfl, ?_⟩ | refine ⟨_, _, rfl, rfl, ?_⟩ | refine ⟨rfl, ?_⟩ | refine ⟨_, _, rfl, .inl (by assumption), ?_⟩ | refine ⟨Or.inl ⟨by decide, by decide⟩, ?_⟩ | refine ⟨(by show (0 : Int) < _; decide), ?_⟩ | refine ⟨⟨by decide, by decide⟩, ?_⟩))
      refine ⟨(by show 2 ≤ sizeLine; decide), fun l2 h2 => ?_⟩
      have T2 := same_upd_new h2 (.lst [.ref lf, .ref l1])
      have el1 : upd (upd H l1 (.lst [.int 1, .int 0])) l2 (.lst [.ref lf, .ref l1]) l1 = some (.lst (([1, 0] : List Int).map V.int)) := T2 _ _ upd_same
      have S2 := T1.trans T2
      have el2 : upd (upd H l1 (.lst [.int 1, .int 0])) l2 (.lst [.ref lf, .ref l1]) l2 = some (.lst [.ref lf, .ref l1]) := upd_same
      generalize upd (upd H l1 (.lst [.int 1, .int 0])) l2 (.lst [.ref lf, .ref l1]) = H2 at el1 el2 S2 ⊢
      have hc : cell % 3 - 1 = 0 ∨ cell % 3 - 1 = 1 := by omega
      have pick : ∀ (p q : Addr), ∃ z : Addr, atI [V.ref p, .ref q] (cell % 3 - 1) = some (.ref z) ∧ ((cell % 3 - 1 = 0 ∧ z = p) ∨ (cell % 3 - 1 = 1 ∧ z = q)) := fun p q => by
        rcases hc with z | z
        · exact ⟨p, by rw [z]; rfl, .inl ⟨z, rfl⟩⟩
        · exact ⟨q, by rw [z]; rfl, .inr ⟨z, rfl⟩⟩
      obtain ⟨a1, at1, w1⟩ := pick lf l1
      (repeat (first | refine ⟨_, rfl, ?_⟩ | refine ⟨_, _, rfl, rfl, ?_⟩ | refine ⟨rfl, ?_⟩ | refine ⟨_, _, rfl, .inl (by assumption), ?_⟩ | refine ⟨Or.inl ⟨by decide, by decide⟩, ?_⟩ | refine ⟨(by show (0 : Int) < _; decide), ?_⟩ | refine ⟨⟨by decide, by decide⟩, ?_⟩))
      refine ⟨l2, _, _, .ref a1, rfl, rfl, SqL.of el2, at1, ?_⟩
      (repeat (first | refine ⟨_, rfl, ?_⟩ | refine ⟨_, _, rfl, rfl, ?_⟩ | refine ⟨rfl, ?_⟩ | refine ⟨_, _, rfl, .inl (by assumption), ?_⟩ | refine ⟨Or.inl ⟨by decide, by decide⟩, ?_⟩ | refine ⟨(by show (0 : Int) < _; decide), ?_⟩ | refine ⟨⟨by decide, by decide⟩, ?_⟩))
      refine ⟨(by show 2 ≤ sizeLine; decide), fun l3 h3 => ?_⟩
      have T3 := same_upd_new h3 (.lst [.int 1, .int 0])
      (repeat (first | refine ⟨_, rfl, ?_⟩ | refine ⟨_, _, rfl, rfl, ?_⟩ | refine ⟨rfl, ?_⟩ | refine ⟨_, _, rfl, .inl (by assumption), ?_⟩ | refine ⟨Or.inl ⟨by decide, by decide⟩, ?_⟩ | refine ⟨(by show (0 : Int) < _; decide), ?_⟩ | refine ⟨⟨by decide, by decide⟩, ?_⟩))
      refine ⟨(by show 2 ≤ sizeLine; decide), fun l4 h4 => ?_⟩
      have T4 := same_upd_new h4 (.lst [.ref l3, .ref lf])
      have el3 : upd (upd H2 l3 (.lst [.int 1, .int 0])) l4 (.lst [.ref l3, .ref lf]) l3 = some (.lst (([1, 0] : List Int).map V.int)) := T4 _ _ upd_same
      have S34 := T3.trans T4
      have el4 : upd (upd H2 l3 (.lst [.int 1, .int 0])) l4 (.lst [.ref l3, .ref lf]) l4 = some (.lst [.ref l3, .ref lf]) := upd_same
      generalize upd (upd H2 l3 (.lst [.int 1, .int 0])) l4 (.lst [.ref l3, .ref lf]) = H4 at el3 el4 S34 ⊢
      obtain ⟨a2, at2, w2⟩ := pick l3 lf
      (repeat (first | refine ⟨_, rfl, ?_⟩ | refine ⟨_, _, rfl, rfl, ?_⟩ | refine ⟨rfl, ?_⟩ | refine ⟨_, _, rfl, .inl (by assumption), ?_⟩ | refine ⟨Or.inl ⟨by decide, by decide⟩, ?_⟩ | refine ⟨(by show (0 : Int) < _; decide), ?_⟩ | refine ⟨⟨by decide, by decide⟩, ?_⟩))
      refine ⟨l4, _, _, .ref a2, rfl, rfl, SqL.of el4, at2, ?_⟩
      have elf4 := S34 _ _ (S2 _ _ elf)
      have el14 := S34 _ _ el1
      have both : ∃ xs ys : List Int, H4 a1 = some (.lst (xs.map V.int)) ∧ H4 a2 = some (.lst (ys.map V.int)) ∧ isArcsM xs = true ∧ isArcsM ys = true ∧ xs.length + ys.length = 42 := by
        rcases w1 with ⟨z, e1⟩ | ⟨z, e1⟩
        · rcases w2 with ⟨z2, e2⟩ | ⟨z2, e2⟩
          · exact ⟨tab 40 (st 20), [1, 0], by rw [e1]; exact elf4, by rw [e2]; exact el3, gf, g1, by rw [lf40]; rfl⟩
          · omega
        · rcases w2 with ⟨z2, e2⟩ | ⟨z2, e2⟩
          · omega
          · exact ⟨[1, 0], tab 40 (st 20), by rw [e1]; exact el14, by rw [e2]; exact elf4, g1, gf, by rw [lf40]; rfl⟩
      obtain ⟨xs, ys, ex, ey, gx, gy, hl⟩ := both
      (repeat (first | refine ⟨_, rfl, ?_⟩ | refine ⟨_, _, rfl, rfl, ?_⟩ | refine ⟨rfl, ?_⟩ | refine ⟨_, _, rfl, .inl (by assumption), ?_⟩ | refine ⟨Or.inl ⟨by decide, by decide⟩, ?_⟩ | refine ⟨(by show (0 : Int) < _; decide), ?_⟩ | refine ⟨⟨by decide, by decide⟩, ?_⟩))
      refine ⟨0, a1, a2, xs, ys, rfl, SqL.of ex, SqL.of ey, by omega, by omega, fun _ _ => by omega, fun _ z => absurd rfl z, fun H' S' => ?_⟩
      rw [if_pos (by rw [gx, gy]; rfl), if_pos rfl]
      refine ⟨CTooMany, rfl, hxmd, fun x hx => ?_⟩
      (repeat (first | refine ⟨_, rfl, ?_⟩ | refine ⟨_, _, rfl, rfl, ?_⟩ | refine ⟨rfl, ?_⟩ | refine ⟨_, _, rfl, .inl (by assumption), ?_⟩ | refine ⟨Or.inl ⟨by decide, by decide⟩, ?_⟩ | refine ⟨(by show (0 : Int) < _; decide), ?_⟩ | refine ⟨⟨by decide, by decide⟩, ?_⟩))
      refine ⟨x, CTooMany, false, false, false, true, false, true, rfl, upd_same, eDx, kda, kdb, kdc, kdd, kde, kdf, fun r H3 S3 e3 => ?_⟩
      exact qh H3 a r v _ _ _ _ (by rw [e3]; unfold flags; rw [hv3]; rfl)
  have hv4 : v = 4 := by
    have := eq_no c0
    have := eq_no c1
    have := eq_no c2
    omega
  (repeat (first | refine ⟨_, rfl, ?_⟩ | refine ⟨_, _, rfl, rfl, ?_⟩ | refine ⟨rfl, ?_⟩ | refine ⟨_, _, rfl, .inl (by assumption), ?_⟩ | refine ⟨Or.inl ⟨by decide, by decide⟩, ?_⟩ | refine ⟨(by show (0 : Int) < _; decide), ?_⟩ | refine ⟨⟨by decide, by decide⟩, ?_⟩))
  refine ite2 (fun y => absurd (eq_yes y) d) (fun _ => ?_)
  (repeat (first | refine ⟨_, rfl, ?_⟩ | refine ⟨_, _, rfl, rfl, ?_⟩ | refine ⟨rfl, ?_⟩ | refine ⟨_, _, rfl, .inl (by assumption), ?_⟩ | refine ⟨Or.inl ⟨by decide, by decide⟩, ?_⟩ | refine ⟨(by show (0 : Int) < _; decide), ?_⟩ | refine ⟨⟨by decide, by decide⟩, ?_⟩))
  (try refine iteF ?_)
  (repeat (first | refine ⟨_, rfl, ?_⟩ | refine ⟨_, _, rfl, rfl, ?_⟩ | refine ⟨rfl, ?_⟩ | refine ⟨_, _, rfl, .inl (by assumption), ?_⟩ | refine ⟨Or.inl ⟨by decide, by decide⟩, ?_⟩ | refine ⟨(by show (0 : Int) < _; decide), ?_⟩ | refine ⟨⟨by decide, by decide⟩, ?_⟩))
  refine ite2 (fun y => absurd (eq_yes y) d) (fun _ => ?_)
  (repeat (first | refine ⟨_, rfl, ?_⟩ | refine ⟨_, _, rfl, rfl, ?_⟩ | refine ⟨rfl, ?_⟩ | refine ⟨_, _, rfl, .inl (by assumption), ?_⟩ | refine ⟨Or.inl ⟨by decide, by decide⟩, ?_⟩ | refine ⟨(by show (0 : Int) < _; decide), ?_⟩ | refine ⟨⟨by decide, by decide⟩, ?_⟩))
  refine ⟨(by show 8 ≤ sizeLine; decide), fun l1 h1 => ?_⟩
  have hw : ∃ z : Str, atI [V.str "", .str "(", .str ")(", .str "())(", .str "((", .str "(a)", .str "( )", .str "[]"] (cell % 8) = some (.str z) ∧ z.length ≤ 1000 ∧ ∀ n g, ¬ Reads z n g := by
    have hc : cell % 8 = 0 ∨ cell % 8 = 1 ∨ cell % 8 = 2 ∨ cell % 8 = 3 ∨ cell % 8 = 4 ∨ cell % 8 = 5 ∨ cell % 8 = 6 ∨ cell % 8 = 7 := by omega
    rcases hc with z | z | z | z | z | z | z | z <;> rw [z]
    · exact ⟨"", rfl, by decide, no_read (.inr (.inl rfl))⟩
    · exact ⟨"(", rfl, by decide, no_read (.inl rfl)⟩
    · exact ⟨")(", rfl, by decide, no_read (.inr (.inr (.inl rfl)))⟩
    · exact ⟨"())(", rfl, by decide, no_read (.inr (.inr (.inl rfl)))⟩
    · exact ⟨"((", rfl, by decide, no_read (.inr (.inr (.inl rfl)))⟩
    · exact ⟨"(a)", rfl, by decide, no_read (.inl rfl)⟩
    · exact ⟨"( )", rfl, by decide, no_read (.inl rfl)⟩
    · exact ⟨"[]", rfl, by decide, no_read (.inr (.inr (.inr rfl)))⟩
  obtain ⟨z, atz, hz, nR⟩ := hw
  (repeat (first | refine ⟨_, rfl, ?_⟩ | refine ⟨_, _, rfl, rfl, ?_⟩ | refine ⟨rfl, ?_⟩ | refine ⟨_, _, rfl, .inl (by assumption), ?_⟩ | refine ⟨Or.inl ⟨by decide, by decide⟩, ?_⟩ | refine ⟨(by show (0 : Int) < _; decide), ?_⟩ | refine ⟨⟨by decide, by decide⟩, ?_⟩))
  refine ⟨l1, _, _, .str z, rfl, rfl, SqL.of upd_same, atz, ?_⟩
  (repeat (first | refine ⟨_, rfl, ?_⟩ | refine ⟨_, _, rfl, rfl, ?_⟩ | refine ⟨rfl, ?_⟩ | refine ⟨_, _, rfl, .inl (by assumption), ?_⟩ | refine ⟨Or.inl ⟨by decide, by decide⟩, ?_⟩ | refine ⟨(by show (0 : Int) < _; decide), ?_⟩ | refine ⟨⟨by decide, by decide⟩, ?_⟩))
  refine ⟨hz, fun n g r H' R => absurd R (nR n g), fun _ H' S' => ?_⟩
  refine ⟨CNotRead, rfl, hxme, fun x hx => ?_⟩
  (repeat (first | refine ⟨_, rfl, ?_⟩ | refine ⟨_, _, rfl, rfl, ?_⟩ | refine ⟨rfl, ?_⟩ | refine ⟨_, _, rfl, .inl (by assumption), ?_⟩ | refine ⟨Or.inl ⟨by decide, by decide⟩, ?_⟩ | refine ⟨(by show (0 : Int) < _; decide), ?_⟩ | refine ⟨⟨by decide, by decide⟩, ?_⟩))
  refine ⟨x, CNotRead, false, false, false, false, true, true, rfl, upd_same, eEx, kea, keb, kec, ked, kee, kef, fun r H3 S3 e3 => ?_⟩
  exact qh H3 a r v _ _ _ _ (by rw [e3]; unfold flags; rw [hv4]; rfl)
end
theorem ok_law {CRiverError CNoArcs CNoNumber CUnlike CTooMany CNotRead : Addr} (F : FunD K "law" "law" s_law dV f fd) (c_law_cell_at : Fn P w K mg base CX0 "_law_cell_at" ["script", "k"] [] 1 (sp_law_cell_at K)) (c_law_no_arcs : Fn P w K mg base (CXE P w) "_law_no_arcs" ["cell", "far"] [] 10 (sp_law_no_arcs CNoArcs)) (c_law_no_number : Fn P w K mg base (CXE P w) "_law_no_number" ["cell", "far"] [] 5 (sp_law_no_number CNoNumber)) (c_law_unlike : Fn P w K mg base (CXE P w) "_law_unlike" ["cell"] [] 10 (sp_law_unlike CUnlike)) (c_covered : Fn P w K mg base (CXE P w) "covered" ["arcs"] [] 5 (sp_covered K CNoArcs CTooMany)) (c_law_of_two : Fn P w K mg base (CXE P w) "_law_of_two" ["way", "one", "other"] [] 9 (sp_law_of_two K CNoArcs CUnlike CTooMany)) (c_arcs_of : Fn P w K mg base (CXE P w) "arcs_of" ["word"] [] 2 (sp_arcs_of CNotRead)) (c_law_which : FnM P w K mg base "_law_which" ["e"] 1 (sp_law_which K CNoArcs CNoNumber CUnlike CTooMany CNotRead)) (mRiverError : mg "RiverError" = some (.ref CRiverError))
    (eAx : ExcC K CNoArcs) (hxma : PySem.W.exmOne K (.ref CNoArcs) (.ref CRiverError) = some true) (kaa : PySem.W.kitOne K (.ref CNoArcs) (.ref CNoArcs) = some true) (kab : PySem.W.kitOne K (.ref CNoArcs) (.ref CNoNumber) = some false) (kac : PySem.W.kitOne K (.ref CNoArcs) (.ref CUnlike) = some false) (kad : PySem.W.kitOne K (.ref CNoArcs) (.ref CTooMany) = some false) (kae : PySem.W.kitOne K (.ref CNoArcs) (.ref CNotRead) = some false) (kaf : PySem.W.kitOne K (.ref CNoArcs) (.type "ValueError") = some true) (eBx : ExcC K CNoNumber) (hxmb : PySem.W.exmOne K (.ref CNoNumber) (.ref CRiverError) = some true) (kba : PySem.W.kitOne K (.ref CNoNumber) (.ref CNoArcs) = some false) (kbb : PySem.W.kitOne K (.ref CNoNumber) (.ref CNoNumber) = some true) (kbc : PySem.W.kitOne K (.ref CNoNumber) (.ref CUnlike) = some false) (kbd : PySem.W.kitOne K (.ref CNoNumber) (.ref CTooMany) = some false) (kbe : PySem.W.kitOne K (.ref CNoNumber) (.ref CNotRead) = some false) (kbf : PySem.W.kitOne K (.ref CNoNumber) (.type "ValueError") = some true) (eCx : ExcC K CUnlike) (hxmc : PySem.W.exmOne K (.ref CUnlike) (.ref CRiverError) = some true) (kca : PySem.W.kitOne K (.ref CUnlike) (.ref CNoArcs) = some false) (kcb : PySem.W.kitOne K (.ref CUnlike) (.ref CNoNumber) = some false) (kcc : PySem.W.kitOne K (.ref CUnlike) (.ref CUnlike) = some true) (kcd : PySem.W.kitOne K (.ref CUnlike) (.ref CTooMany) = some false) (kce : PySem.W.kitOne K (.ref CUnlike) (.ref CNotRead) = some false) (kcf : PySem.W.kitOne K (.ref CUnlike) (.type "ValueError") = some true) (eDx : ExcC K CTooMany) (hxmd : PySem.W.exmOne K (.ref CTooMany) (.ref CRiverError) = some true) (kda : PySem.W.kitOne K (.ref CTooMany) (.ref CNoArcs) = some false) (kdb : PySem.W.kitOne K (.ref CTooMany) (.ref CNoNumber) = some false) (kdc : PySem.W.kitOne K (.ref CTooMany) (.ref CUnlike) = some false) (kdd : PySem.W.kitOne K (.ref CTooMany) (.ref CTooMany) = some true) (kde : PySem.W.kitOne K (.ref CTooMany) (.ref CNotRead) = some false) (kdf : PySem.W.kitOne K (.ref CTooMany) (.type "ValueError") = some true) (eEx : ExcC K CNotRead) (hxme : PySem.W.exmOne K (.ref CNotRead) (.ref CRiverError) = some true) (kea : PySem.W.kitOne K (.ref CNotRead) (.ref CNoArcs) = some false) (keb : PySem.W.kitOne K (.ref CNotRead) (.ref CNoNumber) = some false) (kec : PySem.W.kitOne K (.ref CNotRead) (.ref CUnlike) = some false) (ked : PySem.W.kitOne K (.ref CNotRead) (.ref CTooMany) = some false) (kee : PySem.W.kitOne K (.ref CNotRead) (.ref CNotRead) = some true) (kef : PySem.W.kitOne K (.ref CNotRead) (.type "ValueError") = some true) (mrange : mg "range" = none) : FnOk P w K mg base CX0 11 f fd ["script"] (sp_law K) := by
  refine F.ok (k := 10) sc_law (fun vs H Q E h => ?_) (fun cdv A outer s H vs Q E hr h => ?_)
  · obtain ⟨_, _, rfl, _⟩ := h; rfl
  obtain ⟨a, ns, rfl, hS, hz, q⟩ := h
  have nd := sc_law.nd
  obtain ⟨t2, h2, q2⟩ := law_end (H0 := H) (E := E) (outer := outer) hr mrange q
  obtain ⟨t, h, q1⟩ := law_try (H0 := H) (E := E) (outer := outer) hr h2 q2 c_law_no_arcs c_law_no_number c_law_unlike c_covered c_law_of_two c_arcs_of c_law_which mRiverError eAx hxma kaa kab kac kad kae kaf eBx hxmb kba kbb kbc kbd kbe kbf eCx hxmc kca kcb kcc kcd kce kcf eDx hxmd kda kdb kdc kdd kde kdf eEx hxme kea keb kec ked kee kef
  refine ⟨_, (pss_cons (ps_set (i := 1) nd rfl (Or.inr rfl) (pe_op op_mod (pe_fn c_law_cell_at hr (by decide) rfl (pa_cons (pv 0) (pa_cons pe_int pa_nil))) pe_int))
  (pss_cons (ps_set (i := 2) nd rfl (Or.inl rfl) (pe_fn c_law_cell_at hr (by decide) rfl (pa_cons (pv 0) (pa_cons pe_int pa_nil))))
  (pss_cons (ps_set (i := 3) nd rfl (Or.inl rfl) (pe_op op_mod (pe_fn c_law_cell_at hr (by decide) rfl (pa_cons (pv 0) (pa_cons pe_int pa_nil))) (pe_op op_pow pe_int pe_int)))
  (pss_cons (ps_comp (i := 4) nd rfl rfl rfl (compOk (N' := ["k"]) (js := [none]) (N := ["script", "way", "cell", "far", "full", "told", "e"]) (sc := defScope s_law) rfl rfl rfl (by decide +kernel) (by decide +kernel) (by decide +kernel) rfl (by decide +kernel)) rfl (pi_range1 rfl mrange (pa_cons pe_int pa_nil)) (fun _ _ _ _ _ => (pg_name (i := 0) (show [("k" : PySem.Str)].Nodup by decide +kernel) rfl (Or.inl rfl))) (fun _ _ _ _ _ => pf_nil) (fun _ _ _ _ _ => (pe_op op_sub pe_int (pv 0))))
  (pss_cons (ps_set (i := 5) nd rfl (Or.inl rfl) (pe_lst pa_nil))
  h))))), ?_⟩
  (repeat (first | refine ⟨_, rfl, ?_⟩ | refine ⟨_, _, rfl, rfl, ?_⟩ | refine ⟨rfl, ?_⟩ | refine ⟨_, _, rfl, .inl (by assumption), ?_⟩ | refine ⟨Or.inl ⟨by decide, by decide⟩, ?_⟩ | refine ⟨(by show (0 : Int) < _; decide), ?_⟩ | refine ⟨⟨by decide, by decide⟩, ?_⟩))
  refine ⟨a, ns, 0, rfl, hS, by decide, ?_⟩
  (repeat (first | refine ⟨_, rfl, ?_⟩ | refine ⟨_, _, rfl, rfl, ?_⟩ | refine ⟨rfl, ?_⟩ | refine ⟨_, _, rfl, .inl (by assumption), ?_⟩ | refine ⟨Or.inl ⟨by decide, by decide⟩, ?_⟩ | refine ⟨(by show (0 : Int) < _; decide), ?_⟩ | refine ⟨⟨by decide, by decide⟩, ?_⟩))
  refine ⟨a, ns, 1, rfl, hS, by decide, ?_⟩
  (repeat (first | refine ⟨_, rfl, ?_⟩ | refine ⟨_, _, rfl, rfl, ?_⟩ | refine ⟨rfl, ?_⟩ | refine ⟨_, _, rfl, .inl (by assumption), ?_⟩ | refine ⟨Or.inl ⟨by decide, by decide⟩, ?_⟩ | refine ⟨(by show (0 : Int) < _; decide), ?_⟩ | refine ⟨⟨by decide, by decide⟩, ?_⟩))
  refine ⟨a, ns, 2, rfl, hS, by decide, ?_⟩
  (repeat (first | refine ⟨_, rfl, ?_⟩ | refine ⟨_, _, rfl, rfl, ?_⟩ | refine ⟨rfl, ?_⟩ | refine ⟨_, _, rfl, .inl (by assumption), ?_⟩ | refine ⟨Or.inl ⟨by decide, by decide⟩, ?_⟩ | refine ⟨(by show (0 : Int) < _; decide), ?_⟩ | refine ⟨⟨by decide, by decide⟩, ?_⟩))
  have f0 : 0 ≤ cellAt ns 2 % (10 : Int) ^ (59 : Int).toNat := Int.emod_nonneg _ (by decide)
  have v0 := Int.emod_nonneg (cellAt ns 0) (show (5 : Int) ≠ 0 by decide)
  have v1 := Int.emod_lt_of_pos (cellAt ns 0) (show (0 : Int) < 5 by decide)
  (try refine ⟨(by decide), ?_⟩)
  (repeat (first | refine ⟨_, rfl, ?_⟩ | refine ⟨_, _, rfl, rfl, ?_⟩ | refine ⟨rfl, ?_⟩ | refine ⟨_, _, rfl, .inl (by assumption), ?_⟩ | refine ⟨Or.inl ⟨by decide, by decide⟩, ?_⟩ | refine ⟨(by show (0 : Int) < _; decide), ?_⟩ | refine ⟨⟨by decide, by decide⟩, ?_⟩))
  refine ⟨by decide, fun p hp => ?_⟩
  refine comp_all 40 (fun i => .int (st 20 i : Nat)) (fun σ => ∃ u, σ = [u]) (small60 (by omega)) ⟨_, rfl⟩ hp (fun i H' hi _ => hi) (fun H' _ => Nat.le_refl _) ?_ ?_
  · rintro i x σ' H' H2 k hi ⟨u, rfl⟩ S' ⟨rfl, rfl⟩ hk
    have e0 : (0 : Int) + (i : Int) = i := by omega
    rw [e0]
    (repeat (first | refine ⟨_, rfl, ?_⟩ | refine ⟨_, _, rfl, rfl, ?_⟩ | refine ⟨rfl, ?_⟩ | refine ⟨_, _, rfl, .inl (by assumption), ?_⟩ | refine ⟨Or.inl ⟨by decide, by decide⟩, ?_⟩ | refine ⟨(by show (0 : Int) < _; decide), ?_⟩ | refine ⟨⟨by decide, by decide⟩, ?_⟩))
    refine hk _ _ _ ⟨_, rfl⟩ ?_ (Same.refl _)
    unfold st
    show V.int _ = V.int _
    congr 1
    omega
  intro H1 S1 c1
  have c1' : H1 p = some (.lst ((tab 40 (st 20)).map V.int)) := by
    rw [c1]
    unfold tab
    rw [List.map_map]
    rfl
  (repeat (first | refine ⟨_, rfl, ?_⟩ | refine ⟨_, _, rfl, rfl, ?_⟩ | refine ⟨rfl, ?_⟩ | refine ⟨_, _, rfl, .inl (by assumption), ?_⟩ | refine ⟨Or.inl ⟨by decide, by decide⟩, ?_⟩ | refine ⟨(by show (0 : Int) < _; decide), ?_⟩ | refine ⟨⟨by decide, by decide⟩, ?_⟩))
  refine ⟨by decide, fun r0 hr0 => ?_⟩
  exact q1 _ a p r0 _ _ _ v0 v1 f0 (same_upd_new hr0 _ _ _ c1')

end
end Rl
namespace Rl
open PySem L2
theorem all_mk {l : PySem.W.OpenLaw} {w : World} {K : PySem.W.Frag} {h : Heap} {mg : Str → Option Value} {fa : Addr} (X : K.In h) (G : h.Ns mainGlobals mg) (hfa : mg "law" = some (.ref fa))
    {f_is_length : Addr} {od_is_length an_is_length : Option Addr} {sl_is_length : Array (Option Value)} {oc_is_length kV_is_length dc_is_length pm_is_length cd_is_length ct_is_length : Value}
    (a_is_length : PySem.W.nsIn K mainGlobals "is_length" = some (some (.ref f_is_length))) (l_is_length : K.lookup f_is_length = some ⟨oc_is_length, od_is_length, .func (PySem.W.fnOf "is_length" "is_length" (defArgs s_is_length) (defBody s_is_length) (defScope s_is_length) .none kV_is_length dc_is_length pm_is_length an_is_length cd_is_length ct_is_length), sl_is_length⟩) (i_is_length : PySem.W.codeIn K cd_is_length "is_length" = true) (k_is_length : PySem.W.keepIn K (.ref f_is_length) = true)
    {f_leads_back : Addr} {od_leads_back an_leads_back : Option Addr} {sl_leads_back : Array (Option Value)} {oc_leads_back kV_leads_back dc_leads_back pm_leads_back cd_leads_back ct_leads_back : Value}
    (a_leads_back : PySem.W.nsIn K mainGlobals "leads_back" = some (some (.ref f_leads_back))) (l_leads_back : K.lookup f_leads_back = some ⟨oc_leads_back, od_leads_back, .func (PySem.W.fnOf "leads_back" "leads_back" (defArgs s_leads_back) (defBody s_leads_back) (defScope s_leads_back) .none kV_leads_back dc_leads_back pm_leads_back an_leads_back cd_leads_back ct_leads_back), sl_leads_back⟩) (i_leads_back : PySem.W.codeIn K cd_leads_back "leads_back" = true) (k_leads_back : PySem.W.keepIn K (.ref f_leads_back) = true)
    {f_all_lead_back : Addr} {od_all_lead_back an_all_lead_back : Option Addr} {sl_all_lead_back : Array (Option Value)} {oc_all_lead_back kV_all_lead_back dc_all_lead_back pm_all_lead_back cd_all_lead_back ct_all_lead_back : Value}
    (a_all_lead_back : PySem.W.nsIn K mainGlobals "all_lead_back" = some (some (.ref f_all_lead_back))) (l_all_lead_back : K.lookup f_all_lead_back = some ⟨oc_all_lead_back, od_all_lead_back, .func (PySem.W.fnOf "all_lead_back" "all_lead_back" (defArgs s_all_lead_back) (defBody s_all_lead_back) (defScope s_all_lead_back) .none kV_all_lead_back dc_all_lead_back pm_all_lead_back an_all_lead_back cd_all_lead_back ct_all_lead_back), sl_all_lead_back⟩) (i_all_lead_back : PySem.W.codeIn K cd_all_lead_back "all_lead_back" = true) (k_all_lead_back : PySem.W.keepIn K (.ref f_all_lead_back) = true)
    {f_none_cross : Addr} {od_none_cross an_none_cross : Option Addr} {sl_none_cross : Array (Option Value)} {oc_none_cross kV_none_cross dc_none_cross pm_none_cross cd_none_cross ct_none_cross : Value}
    (a_none_cross : PySem.W.nsIn K mainGlobals "none_cross" = some (some (.ref f_none_cross))) (l_none_cross : K.lookup f_none_cross = some ⟨oc_none_cross, od_none_cross, .func (PySem.W.fnOf "none_cross" "none_cross" (defArgs s_none_cross) (defBody s_none_cross) (defScope s_none_cross) .none kV_none_cross dc_none_cross pm_none_cross an_none_cross cd_none_cross ct_none_cross), sl_none_cross⟩) (i_none_cross : PySem.W.codeIn K cd_none_cross "none_cross" = true) (k_none_cross : PySem.W.keepIn K (.ref f_none_cross) = true)
    {f_is_arcs : Addr} {od_is_arcs an_is_arcs : Option Addr} {sl_is_arcs : Array (Option Value)} {oc_is_arcs kV_is_arcs dc_is_arcs pm_is_arcs cd_is_arcs ct_is_arcs : Value}
    (a_is_arcs : PySem.W.nsIn K mainGlobals "is_arcs" = some (some (.ref f_is_arcs))) (l_is_arcs : K.lookup f_is_arcs = some ⟨oc_is_arcs, od_is_arcs, .func (PySem.W.fnOf "is_arcs" "is_arcs" (defArgs s_is_arcs) (defBody s_is_arcs) (defScope s_is_arcs) .none kV_is_arcs dc_is_arcs pm_is_arcs an_is_arcs cd_is_arcs ct_is_arcs), sl_is_arcs⟩) (i_is_arcs : PySem.W.codeIn K cd_is_arcs "is_arcs" = true) (k_is_arcs : PySem.W.keepIn K (.ref f_is_arcs) = true)
    {f_refuse_no_arcs : Addr} {od_refuse_no_arcs an_refuse_no_arcs : Option Addr} {sl_refuse_no_arcs : Array (Option Value)} {oc_refuse_no_arcs kV_refuse_no_arcs dc_refuse_no_arcs pm_refuse_no_arcs cd_refuse_no_arcs ct_refuse_no_arcs : Value}
    {T_refuse_no_arcs : Addr} {ot_refuse_no_arcs : Obj} {tn_refuse_no_arcs : Nat} {tt_refuse_no_arcs : Tok}
    (a_refuse_no_arcs : PySem.W.nsIn K mainGlobals "refuse_no_arcs" = some (some (.ref f_refuse_no_arcs))) (l_refuse_no_arcs : K.lookup f_refuse_no_arcs = some ⟨oc_refuse_no_arcs, od_refuse_no_arcs, .func (PySem.W.fnOf "refuse_no_arcs" "refuse_no_arcs" (defArgs s_refuse_no_arcs) (defBody s_refuse_no_arcs) (defScope s_refuse_no_arcs) (.ref T_refuse_no_arcs) kV_refuse_no_arcs dc_refuse_no_arcs pm_refuse_no_arcs an_refuse_no_arcs cd_refuse_no_arcs ct_refuse_no_arcs), sl_refuse_no_arcs⟩) (i_refuse_no_arcs : PySem.W.codeIn K cd_refuse_no_arcs "refuse_no_arcs" = true) (k_refuse_no_arcs : PySem.W.keepIn K (.ref f_refuse_no_arcs) = true)
    (t_refuse_no_arcs : K.lookup T_refuse_no_arcs = some ot_refuse_no_arcs) (d_refuse_no_arcs : ot_refuse_no_arcs.data = .seq #[.str "the list" tt_refuse_no_arcs] tn_refuse_no_arcs)
    {f_refuse_no_rows : Addr} {od_refuse_no_rows an_refuse_no_rows : Option Addr} {sl_refuse_no_rows : Array (Option Value)} {oc_refuse_no_rows kV_refuse_no_rows dc_refuse_no_rows pm_refuse_no_rows cd_refuse_no_rows ct_refuse_no_rows : Value}
    (a_refuse_no_rows : PySem.W.nsIn K mainGlobals "refuse_no_rows" = some (some (.ref f_refuse_no_rows))) (l_refuse_no_rows : K.lookup f_refuse_no_rows = some ⟨oc_refuse_no_rows, od_refuse_no_rows, .func (PySem.W.fnOf "refuse_no_rows" "refuse_no_rows" (defArgs s_refuse_no_rows) (defBody s_refuse_no_rows) (defScope s_refuse_no_rows) .none kV_refuse_no_rows dc_refuse_no_rows pm_refuse_no_rows an_refuse_no_rows cd_refuse_no_rows ct_refuse_no_rows), sl_refuse_no_rows⟩) (i_refuse_no_rows : PySem.W.codeIn K cd_refuse_no_rows "refuse_no_rows" = true) (k_refuse_no_rows : PySem.W.keepIn K (.ref f_refuse_no_rows) = true)
    {f_refuse_unlike : Addr} {od_refuse_unlike an_refuse_unlike : Option Addr} {sl_refuse_unlike : Array (Option Value)} {oc_refuse_unlike kV_refuse_unlike dc_refuse_unlike pm_refuse_unlike cd_refuse_unlike ct_refuse_unlike : Value}
    (a_refuse_unlike : PySem.W.nsIn K mainGlobals "refuse_unlike" = some (some (.ref f_refuse_unlike))) (l_refuse_unlike : K.lookup f_refuse_unlike = some ⟨oc_refuse_unlike, od_refuse_unlike, .func (PySem.W.fnOf "refuse_unlike" "refuse_unlike" (defArgs s_refuse_unlike) (defBody s_refuse_unlike) (defScope s_refuse_unlike) .none kV_refuse_unlike dc_refuse_unlike pm_refuse_unlike an_refuse_unlike cd_refuse_unlike ct_refuse_unlike), sl_refuse_unlike⟩) (i_refuse_unlike : PySem.W.codeIn K cd_refuse_unlike "refuse_unlike" = true) (k_refuse_unlike : PySem.W.keepIn K (.ref f_refuse_unlike) = true)
    {f_refuse_too_many : Addr} {od_refuse_too_many an_refuse_too_many : Option Addr} {sl_refuse_too_many : Array (Option Value)} {oc_refuse_too_many kV_refuse_too_many dc_refuse_too_many pm_refuse_too_many cd_refuse_too_many ct_refuse_too_many : Value}
    (a_refuse_too_many : PySem.W.nsIn K mainGlobals "refuse_too_many" = some (some (.ref f_refuse_too_many))) (l_refuse_too_many : K.lookup f_refuse_too_many = some ⟨oc_refuse_too_many, od_refuse_too_many, .func (PySem.W.fnOf "refuse_too_many" "refuse_too_many" (defArgs s_refuse_too_many) (defBody s_refuse_too_many) (defScope s_refuse_too_many) .none kV_refuse_too_many dc_refuse_too_many pm_refuse_too_many an_refuse_too_many cd_refuse_too_many ct_refuse_too_many), sl_refuse_too_many⟩) (i_refuse_too_many : PySem.W.codeIn K cd_refuse_too_many "refuse_too_many" = true) (k_refuse_too_many : PySem.W.keepIn K (.ref f_refuse_too_many) = true)
    {f_join_bridges : Addr} {od_join_bridges an_join_bridges : Option Addr} {sl_join_bridges : Array (Option Value)} {oc_join_bridges kV_join_bridges dc_join_bridges pm_join_bridges cd_join_bridges ct_join_bridges : Value}
    (a_join_bridges : PySem.W.nsIn K mainGlobals "join_bridges" = some (some (.ref f_join_bridges))) (l_join_bridges : K.lookup f_join_bridges = some ⟨oc_join_bridges, od_join_bridges, .func (PySem.W.fnOf "join_bridges" "join_bridges" (defArgs s_join_bridges) (defBody s_join_bridges) (defScope s_join_bridges) .none kV_join_bridges dc_join_bridges pm_join_bridges an_join_bridges cd_join_bridges ct_join_bridges), sl_join_bridges⟩) (i_join_bridges : PySem.W.codeIn K cd_join_bridges "join_bridges" = true) (k_join_bridges : PySem.W.keepIn K (.ref f_join_bridges) = true)
    {f_word_of : Addr} {od_word_of an_word_of : Option Addr} {sl_word_of : Array (Option Value)} {oc_word_of kV_word_of dc_word_of pm_word_of cd_word_of ct_word_of : Value}
    (a_word_of : PySem.W.nsIn K mainGlobals "word_of" = some (some (.ref f_word_of))) (l_word_of : K.lookup f_word_of = some ⟨oc_word_of, od_word_of, .func (PySem.W.fnOf "word_of" "word_of" (defArgs s_word_of) (defBody s_word_of) (defScope s_word_of) .none kV_word_of dc_word_of pm_word_of an_word_of cd_word_of ct_word_of), sl_word_of⟩) (i_word_of : PySem.W.codeIn K cd_word_of "word_of" = true) (k_word_of : PySem.W.keepIn K (.ref f_word_of) = true)
    {f_arcs_of : Addr} {od_arcs_of an_arcs_of : Option Addr} {sl_arcs_of : Array (Option Value)} {oc_arcs_of kV_arcs_of dc_arcs_of pm_arcs_of cd_arcs_of ct_arcs_of : Value}
    (a_arcs_of : PySem.W.nsIn K mainGlobals "arcs_of" = some (some (.ref f_arcs_of))) (l_arcs_of : K.lookup f_arcs_of = some ⟨oc_arcs_of, od_arcs_of, .func (PySem.W.fnOf "arcs_of" "arcs_of" (defArgs s_arcs_of) (defBody s_arcs_of) (defScope s_arcs_of) .none kV_arcs_of dc_arcs_of pm_arcs_of an_arcs_of cd_arcs_of ct_arcs_of), sl_arcs_of⟩) (i_arcs_of : PySem.W.codeIn K cd_arcs_of "arcs_of" = true) (k_arcs_of : PySem.W.keepIn K (.ref f_arcs_of) = true)
    {f_turned : Addr} {od_turned an_turned : Option Addr} {sl_turned : Array (Option Value)} {oc_turned kV_turned dc_turned pm_turned cd_turned ct_turned : Value}
    (a_turned : PySem.W.nsIn K mainGlobals "turned" = some (some (.ref f_turned))) (l_turned : K.lookup f_turned = some ⟨oc_turned, od_turned, .func (PySem.W.fnOf "turned" "turned" (defArgs s_turned) (defBody s_turned) (defScope s_turned) .none kV_turned dc_turned pm_turned an_turned cd_turned ct_turned), sl_turned⟩) (i_turned : PySem.W.codeIn K cd_turned "turned" = true) (k_turned : PySem.W.keepIn K (.ref f_turned) = true)
    {f_mirrored : Addr} {od_mirrored an_mirrored : Option Addr} {sl_mirrored : Array (Option Value)} {oc_mirrored kV_mirrored dc_mirrored pm_mirrored cd_mirrored ct_mirrored : Value}
    (a_mirrored : PySem.W.nsIn K mainGlobals "mirrored" = some (some (.ref f_mirrored))) (l_mirrored : K.lookup f_mirrored = some ⟨oc_mirrored, od_mirrored, .func (PySem.W.fnOf "mirrored" "mirrored" (defArgs s_mirrored) (defBody s_mirrored) (defScope s_mirrored) .none kV_mirrored dc_mirrored pm_mirrored an_mirrored cd_mirrored ct_mirrored), sl_mirrored⟩) (i_mirrored : PySem.W.codeIn K cd_mirrored "mirrored" = true) (k_mirrored : PySem.W.keepIn K (.ref f_mirrored) = true)
    {f_beside : Addr} {od_beside an_beside : Option Addr} {sl_beside : Array (Option Value)} {oc_beside kV_beside dc_beside pm_beside cd_beside ct_beside : Value}
    (a_beside : PySem.W.nsIn K mainGlobals "beside" = some (some (.ref f_beside))) (l_beside : K.lookup f_beside = some ⟨oc_beside, od_beside, .func (PySem.W.fnOf "beside" "beside" (defArgs s_beside) (defBody s_beside) (defScope s_beside) .none kV_beside dc_beside pm_beside an_beside cd_beside ct_beside), sl_beside⟩) (i_beside : PySem.W.codeIn K cd_beside "beside" = true) (k_beside : PySem.W.keepIn K (.ref f_beside) = true)
    {f_covered : Addr} {od_covered an_covered : Option Addr} {sl_covered : Array (Option Value)} {oc_covered kV_covered dc_covered pm_covered cd_covered ct_covered : Value}
    (a_covered : PySem.W.nsIn K mainGlobals "covered" = some (some (.ref f_covered))) (l_covered : K.lookup f_covered = some ⟨oc_covered, od_covered, .func (PySem.W.fnOf "covered" "covered" (defArgs s_covered) (defBody s_covered) (defScope s_covered) .none kV_covered dc_covered pm_covered an_covered cd_covered ct_covered), sl_covered⟩) (i_covered : PySem.W.codeIn K cd_covered "covered" = true) (k_covered : PySem.W.keepIn K (.ref f_covered) = true)
    {f_refuse_no_number : Addr} {od_refuse_no_number an_refuse_no_number : Option Addr} {sl_refuse_no_number : Array (Option Value)} {oc_refuse_no_number kV_refuse_no_number dc_refuse_no_number pm_refuse_no_number cd_refuse_no_number ct_refuse_no_number : Value}
    (a_refuse_no_number : PySem.W.nsIn K mainGlobals "refuse_no_number" = some (some (.ref f_refuse_no_number))) (l_refuse_no_number : K.lookup f_refuse_no_number = some ⟨oc_refuse_no_number, od_refuse_no_number, .func (PySem.W.fnOf "refuse_no_number" "refuse_no_number" (defArgs s_refuse_no_number) (defBody s_refuse_no_number) (defScope s_refuse_no_number) .none kV_refuse_no_number dc_refuse_no_number pm_refuse_no_number an_refuse_no_number cd_refuse_no_number ct_refuse_no_number), sl_refuse_no_number⟩) (i_refuse_no_number : PySem.W.codeIn K cd_refuse_no_number "refuse_no_number" = true) (k_refuse_no_number : PySem.W.keepIn K (.ref f_refuse_no_number) = true)
    {f_refuse_no_size : Addr} {od_refuse_no_size an_refuse_no_size : Option Addr} {sl_refuse_no_size : Array (Option Value)} {oc_refuse_no_size kV_refuse_no_size dc_refuse_no_size pm_refuse_no_size cd_refuse_no_size ct_refuse_no_size : Value}
    (a_refuse_no_size : PySem.W.nsIn K mainGlobals "refuse_no_size" = some (some (.ref f_refuse_no_size))) (l_refuse_no_size : K.lookup f_refuse_no_size = some ⟨oc_refuse_no_size, od_refuse_no_size, .func (PySem.W.fnOf "refuse_no_size" "refuse_no_size" (defArgs s_refuse_no_size) (defBody s_refuse_no_size) (defScope s_refuse_no_size) .none kV_refuse_no_size dc_refuse_no_size pm_refuse_no_size an_refuse_no_size cd_refuse_no_size ct_refuse_no_size), sl_refuse_no_size⟩) (i_refuse_no_size : PySem.W.codeIn K cd_refuse_no_size "refuse_no_size" = true) (k_refuse_no_size : PySem.W.keepIn K (.ref f_refuse_no_size) = true)
    {f_all_ways : Addr} {od_all_ways an_all_ways : Option Addr} {sl_all_ways : Array (Option Value)} {oc_all_ways kV_all_ways dc_all_ways pm_all_ways cd_all_ways ct_all_ways : Value}
    (a_all_ways : PySem.W.nsIn K mainGlobals "all_ways" = some (some (.ref f_all_ways))) (l_all_ways : K.lookup f_all_ways = some ⟨oc_all_ways, od_all_ways, .func (PySem.W.fnOf "all_ways" "all_ways" (defArgs s_all_ways) (defBody s_all_ways) (defScope s_all_ways) .none kV_all_ways dc_all_ways pm_all_ways an_all_ways cd_all_ways ct_all_ways), sl_all_ways⟩) (i_all_ways : PySem.W.codeIn K cd_all_ways "all_ways" = true) (k_all_ways : PySem.W.keepIn K (.ref f_all_ways) = true)
    {f_many : Addr} {od_many an_many : Option Addr} {sl_many : Array (Option Value)} {oc_many kV_many dc_many pm_many cd_many ct_many : Value}
    (a_many : PySem.W.nsIn K mainGlobals "many" = some (some (.ref f_many))) (l_many : K.lookup f_many = some ⟨oc_many, od_many, .func (PySem.W.fnOf "many" "many" (defArgs s_many) (defBody s_many) (defScope s_many) .none kV_many dc_many pm_many an_many cd_many ct_many), sl_many⟩) (i_many : PySem.W.codeIn K cd_many "many" = true) (k_many : PySem.W.keepIn K (.ref f_many) = true)
    {f_arcs_at : Addr} {od_arcs_at an_arcs_at : Option Addr} {sl_arcs_at : Array (Option Value)} {oc_arcs_at kV_arcs_at dc_arcs_at pm_arcs_at cd_arcs_at ct_arcs_at : Value}
    (a_arcs_at : PySem.W.nsIn K mainGlobals "arcs_at" = some (some (.ref f_arcs_at))) (l_arcs_at : K.lookup f_arcs_at = some ⟨oc_arcs_at, od_arcs_at, .func (PySem.W.fnOf "arcs_at" "arcs_at" (defArgs s_arcs_at) (defBody s_arcs_at) (defScope s_arcs_at) .none kV_arcs_at dc_arcs_at pm_arcs_at an_arcs_at cd_arcs_at ct_arcs_at), sl_arcs_at⟩) (i_arcs_at : PySem.W.codeIn K cd_arcs_at "arcs_at" = true) (k_arcs_at : PySem.W.keepIn K (.ref f_arcs_at) = true)
    {f_number_of : Addr} {od_number_of an_number_of : Option Addr} {sl_number_of : Array (Option Value)} {oc_number_of kV_number_of dc_number_of pm_number_of cd_number_of ct_number_of : Value}
    (a_number_of : PySem.W.nsIn K mainGlobals "number_of" = some (some (.ref f_number_of))) (l_number_of : K.lookup f_number_of = some ⟨oc_number_of, od_number_of, .func (PySem.W.fnOf "number_of" "number_of" (defArgs s_number_of) (defBody s_number_of) (defScope s_number_of) .none kV_number_of dc_number_of pm_number_of an_number_of cd_number_of ct_number_of), sl_number_of⟩) (i_number_of : PySem.W.codeIn K cd_number_of "number_of" = true) (k_number_of : PySem.W.keepIn K (.ref f_number_of) = true)
    {f_roads : Addr} {od_roads an_roads : Option Addr} {sl_roads : Array (Option Value)} {oc_roads kV_roads dc_roads pm_roads cd_roads ct_roads : Value}
    (a_roads : PySem.W.nsIn K mainGlobals "roads" = some (some (.ref f_roads))) (l_roads : K.lookup f_roads = some ⟨oc_roads, od_roads, .func (PySem.W.fnOf "roads" "roads" (defArgs s_roads) (defBody s_roads) (defScope s_roads) .none kV_roads dc_roads pm_roads an_roads cd_roads ct_roads), sl_roads⟩) (i_roads : PySem.W.codeIn K cd_roads "roads" = true) (k_roads : PySem.W.keepIn K (.ref f_roads) = true)
    {f_many_roads : Addr} {od_many_roads an_many_roads : Option Addr} {sl_many_roads : Array (Option Value)} {oc_many_roads kV_many_roads dc_many_roads pm_many_roads cd_many_roads ct_many_roads : Value}
    (a_many_roads : PySem.W.nsIn K mainGlobals "many_roads" = some (some (.ref f_many_roads))) (l_many_roads : K.lookup f_many_roads = some ⟨oc_many_roads, od_many_roads, .func (PySem.W.fnOf "many_roads" "many_roads" (defArgs s_many_roads) (defBody s_many_roads) (defScope s_many_roads) .none kV_many_roads dc_many_roads pm_many_roads an_many_roads cd_many_roads ct_many_roads), sl_many_roads⟩) (i_many_roads : PySem.W.codeIn K cd_many_roads "many_roads" = true) (k_many_roads : PySem.W.keepIn K (.ref f_many_roads) = true)
    {f_one_road : Addr} {od_one_road an_one_road : Option Addr} {sl_one_road : Array (Option Value)} {oc_one_road kV_one_road dc_one_road pm_one_road cd_one_road ct_one_road : Value}
    (a_one_road : PySem.W.nsIn K mainGlobals "one_road" = some (some (.ref f_one_road))) (l_one_road : K.lookup f_one_road = some ⟨oc_one_road, od_one_road, .func (PySem.W.fnOf "one_road" "one_road" (defArgs s_one_road) (defBody s_one_road) (defScope s_one_road) .none kV_one_road dc_one_road pm_one_road an_one_road cd_one_road ct_one_road), sl_one_road⟩) (i_one_road : PySem.W.codeIn K cd_one_road "one_road" = true) (k_one_road : PySem.W.keepIn K (.ref f_one_road) = true)
    {f_rows_with : Addr} {od_rows_with an_rows_with : Option Addr} {sl_rows_with : Array (Option Value)} {oc_rows_with kV_rows_with dc_rows_with pm_rows_with cd_rows_with ct_rows_with : Value}
    (a_rows_with : PySem.W.nsIn K mainGlobals "rows_with" = some (some (.ref f_rows_with))) (l_rows_with : K.lookup f_rows_with = some ⟨oc_rows_with, od_rows_with, .func (PySem.W.fnOf "rows_with" "rows_with" (defArgs s_rows_with) (defBody s_rows_with) (defScope s_rows_with) .none kV_rows_with dc_rows_with pm_rows_with an_rows_with cd_rows_with ct_rows_with), sl_rows_with⟩) (i_rows_with : PySem.W.codeIn K cd_rows_with "rows_with" = true) (k_rows_with : PySem.W.keepIn K (.ref f_rows_with) = true)
    {f_straight : Addr} {od_straight an_straight : Option Addr} {sl_straight : Array (Option Value)} {oc_straight kV_straight dc_straight pm_straight cd_straight ct_straight : Value}
    (a_straight : PySem.W.nsIn K mainGlobals "straight" = some (some (.ref f_straight))) (l_straight : K.lookup f_straight = some ⟨oc_straight, od_straight, .func (PySem.W.fnOf "straight" "straight" (defArgs s_straight) (defBody s_straight) (defScope s_straight) .none kV_straight dc_straight pm_straight an_straight cd_straight ct_straight), sl_straight⟩) (i_straight : PySem.W.codeIn K cd_straight "straight" = true) (k_straight : PySem.W.keepIn K (.ref f_straight) = true)
    {f_hook : Addr} {od_hook an_hook : Option Addr} {sl_hook : Array (Option Value)} {oc_hook kV_hook dc_hook pm_hook cd_hook ct_hook : Value}
    (a_hook : PySem.W.nsIn K mainGlobals "hook" = some (some (.ref f_hook))) (l_hook : K.lookup f_hook = some ⟨oc_hook, od_hook, .func (PySem.W.fnOf "hook" "hook" (defArgs s_hook) (defBody s_hook) (defScope s_hook) .none kV_hook dc_hook pm_hook an_hook cd_hook ct_hook), sl_hook⟩) (i_hook : PySem.W.codeIn K cd_hook "hook" = true) (k_hook : PySem.W.keepIn K (.ref f_hook) = true)
    {f_laid : Addr} {od_laid an_laid : Option Addr} {sl_laid : Array (Option Value)} {oc_laid kV_laid dc_laid pm_laid cd_laid ct_laid : Value}
    (a_laid : PySem.W.nsIn K mainGlobals "laid" = some (some (.ref f_laid))) (l_laid : K.lookup f_laid = some ⟨oc_laid, od_laid, .func (PySem.W.fnOf "laid" "laid" (defArgs s_laid) (defBody s_laid) (defScope s_laid) .none kV_laid dc_laid pm_laid an_laid cd_laid ct_laid), sl_laid⟩) (i_laid : PySem.W.codeIn K cd_laid "laid" = true) (k_laid : PySem.W.keepIn K (.ref f_laid) = true)
    {f_closed : Addr} {od_closed an_closed : Option Addr} {sl_closed : Array (Option Value)} {oc_closed kV_closed dc_closed pm_closed cd_closed ct_closed : Value}
    (a_closed : PySem.W.nsIn K mainGlobals "closed" = some (some (.ref f_closed))) (l_closed : K.lookup f_closed = some ⟨oc_closed, od_closed, .func (PySem.W.fnOf "closed" "closed" (defArgs s_closed) (defBody s_closed) (defScope s_closed) .none kV_closed dc_closed pm_closed an_closed cd_closed ct_closed), sl_closed⟩) (i_closed : PySem.W.codeIn K cd_closed "closed" = true) (k_closed : PySem.W.keepIn K (.ref f_closed) = true)
    {f_law_cell_at : Addr} {od_law_cell_at an_law_cell_at : Option Addr} {sl_law_cell_at : Array (Option Value)} {oc_law_cell_at kV_law_cell_at dc_law_cell_at pm_law_cell_at cd_law_cell_at ct_law_cell_at : Value}
    (a_law_cell_at : PySem.W.nsIn K mainGlobals "_law_cell_at" = some (some (.ref f_law_cell_at))) (l_law_cell_at : K.lookup f_law_cell_at = some ⟨oc_law_cell_at, od_law_cell_at, .func (PySem.W.fnOf "_law_cell_at" "_law_cell_at" (defArgs s_law_cell_at) (defBody s_law_cell_at) (defScope s_law_cell_at) .none kV_law_cell_at dc_law_cell_at pm_law_cell_at an_law_cell_at cd_law_cell_at ct_law_cell_at), sl_law_cell_at⟩) (i_law_cell_at : PySem.W.codeIn K cd_law_cell_at "_law_cell_at" = true) (k_law_cell_at : PySem.W.keepIn K (.ref f_law_cell_at) = true)
    {f_law_which : Addr} {od_law_which an_law_which : Option Addr} {sl_law_which : Array (Option Value)} {oc_law_which kV_law_which dc_law_which pm_law_which cd_law_which ct_law_which : Value}
    (a_law_which : PySem.W.nsIn K mainGlobals "_law_which" = some (some (.ref f_law_which))) (l_law_which : K.lookup f_law_which = some ⟨oc_law_which, od_law_which, .func (PySem.W.fnOf "_law_which" "_law_which" (defArgs s_law_which) (defBody s_law_which) (defScope s_law_which) .none kV_law_which dc_law_which pm_law_which an_law_which cd_law_which ct_law_which), sl_law_which⟩) (i_law_which : PySem.W.codeIn K cd_law_which "_law_which" = true) (k_law_which : PySem.W.keepIn K (.ref f_law_which) = true)
    {f_law_of_two : Addr} {od_law_of_two an_law_of_two : Option Addr} {sl_law_of_two : Array (Option Value)} {oc_law_of_two kV_law_of_two dc_law_of_two pm_law_of_two cd_law_of_two ct_law_of_two : Value}
    (a_law_of_two : PySem.W.nsIn K mainGlobals "_law_of_two" = some (some (.ref f_law_of_two))) (l_law_of_two : K.lookup f_law_of_two = some ⟨oc_law_of_two, od_law_of_two, .func (PySem.W.fnOf "_law_of_two" "_law_of_two" (defArgs s_law_of_two) (defBody s_law_of_two) (defScope s_law_of_two) .none kV_law_of_two dc_law_of_two pm_law_of_two an_law_of_two cd_law_of_two ct_law_of_two), sl_law_of_two⟩) (i_law_of_two : PySem.W.codeIn K cd_law_of_two "_law_of_two" = true) (k_law_of_two : PySem.W.keepIn K (.ref f_law_of_two) = true)
    {f_law_no_arcs : Addr} {od_law_no_arcs an_law_no_arcs : Option Addr} {sl_law_no_arcs : Array (Option Value)} {oc_law_no_arcs kV_law_no_arcs dc_law_no_arcs pm_law_no_arcs cd_law_no_arcs ct_law_no_arcs : Value}
    (a_law_no_arcs : PySem.W.nsIn K mainGlobals "_law_no_arcs" = some (some (.ref f_law_no_arcs))) (l_law_no_arcs : K.lookup f_law_no_arcs = some ⟨oc_law_no_arcs, od_law_no_arcs, .func (PySem.W.fnOf "_law_no_arcs" "_law_no_arcs" (defArgs s_law_no_arcs) (defBody s_law_no_arcs) (defScope s_law_no_arcs) .none kV_law_no_arcs dc_law_no_arcs pm_law_no_arcs an_law_no_arcs cd_law_no_arcs ct_law_no_arcs), sl_law_no_arcs⟩) (i_law_no_arcs : PySem.W.codeIn K cd_law_no_arcs "_law_no_arcs" = true) (k_law_no_arcs : PySem.W.keepIn K (.ref f_law_no_arcs) = true)
    {f_law_unlike : Addr} {od_law_unlike an_law_unlike : Option Addr} {sl_law_unlike : Array (Option Value)} {oc_law_unlike kV_law_unlike dc_law_unlike pm_law_unlike cd_law_unlike ct_law_unlike : Value}
    (a_law_unlike : PySem.W.nsIn K mainGlobals "_law_unlike" = some (some (.ref f_law_unlike))) (l_law_unlike : K.lookup f_law_unlike = some ⟨oc_law_unlike, od_law_unlike, .func (PySem.W.fnOf "_law_unlike" "_law_unlike" (defArgs s_law_unlike) (defBody s_law_unlike) (defScope s_law_unlike) .none kV_law_unlike dc_law_unlike pm_law_unlike an_law_unlike cd_law_unlike ct_law_unlike), sl_law_unlike⟩) (i_law_unlike : PySem.W.codeIn K cd_law_unlike "_law_unlike" = true) (k_law_unlike : PySem.W.keepIn K (.ref f_law_unlike) = true)
    {f_law_no_number : Addr} {od_law_no_number an_law_no_number : Option Addr} {sl_law_no_number : Array (Option Value)} {oc_law_no_number kV_law_no_number dc_law_no_number pm_law_no_number cd_law_no_number ct_law_no_number : Value}
    (a_law_no_number : PySem.W.nsIn K mainGlobals "_law_no_number" = some (some (.ref f_law_no_number))) (l_law_no_number : K.lookup f_law_no_number = some ⟨oc_law_no_number, od_law_no_number, .func (PySem.W.fnOf "_law_no_number" "_law_no_number" (defArgs s_law_no_number) (defBody s_law_no_number) (defScope s_law_no_number) .none kV_law_no_number dc_law_no_number pm_law_no_number an_law_no_number cd_law_no_number ct_law_no_number), sl_law_no_number⟩) (i_law_no_number : PySem.W.codeIn K cd_law_no_number "_law_no_number" = true) (k_law_no_number : PySem.W.keepIn K (.ref f_law_no_number) = true)
    {f_law : Addr} {od_law an_law : Option Addr} {sl_law : Array (Option Value)} {oc_law kV_law dc_law pm_law cd_law ct_law : Value}
    (a_law : PySem.W.nsIn K mainGlobals "law" = some (some (.ref f_law))) (l_law : K.lookup f_law = some ⟨oc_law, od_law, .func (PySem.W.fnOf "law" "law" (defArgs s_law) (defBody s_law) (defScope s_law) .none kV_law dc_law pm_law an_law cd_law ct_law), sl_law⟩) (i_law : PySem.W.codeIn K cd_law "law" = true) (k_law : PySem.W.keepIn K (.ref f_law) = true)
    (z_ValueError : PySem.W.nsIn K mainGlobals "ValueError" = some none)
    (z_enumerate : PySem.W.nsIn K mainGlobals "enumerate" = some none)
    (z_isinstance : PySem.W.nsIn K mainGlobals "isinstance" = some none)
    (z_len : PySem.W.nsIn K mainGlobals "len" = some none)
    (z_range : PySem.W.nsIn K mainGlobals "range" = some none)
    {g_MOST_ARCS : Tok} (y_MOST_ARCS : PySem.W.nsIn K mainGlobals "MOST_ARCS" = some (some (.int 20 g_MOST_ARCS)))
    {g_MOST_IN_PAIRS : Tok} (y_MOST_IN_PAIRS : PySem.W.nsIn K mainGlobals "MOST_IN_PAIRS" = some (some (.int 5 g_MOST_IN_PAIRS)))
    {CNoArcs : Addr} (v_NoArcs : PySem.W.nsIn K mainGlobals "NoArcs" = some (some (.ref CNoArcs)))
    {CNoNumber : Addr} (v_NoNumber : PySem.W.nsIn K mainGlobals "NoNumber" = some (some (.ref CNoNumber)))
    {CNotRead : Addr} (v_NotRead : PySem.W.nsIn K mainGlobals "NotRead" = some (some (.ref CNotRead)))
    {CRiverError : Addr} (v_RiverError : PySem.W.nsIn K mainGlobals "RiverError" = some (some (.ref CRiverError)))
    {CTooMany : Addr} (v_TooMany : PySem.W.nsIn K mainGlobals "TooMany" = some (some (.ref CTooMany)))
    {CUnlike : Addr} (v_Unlike : PySem.W.nsIn K mainGlobals "Unlike" = some (some (.ref CUnlike)))
    (xNoArcs : PySem.W.excIn K CNoArcs veMro "ValueError.__new__" = true)
    (xNoNumber : PySem.W.excIn K CNoNumber veMro "ValueError.__new__" = true)
    (xUnlike : PySem.W.excIn K CUnlike veMro "ValueError.__new__" = true)
    (xTooMany : PySem.W.excIn K CTooMany veMro "ValueError.__new__" = true)
    (xNotRead : PySem.W.excIn K CNotRead veMro "ValueError.__new__" = true)
    (eAx : ExcC K CNoArcs)
    (hxma : PySem.W.exmOne K (.ref CNoArcs) (.ref CRiverError) = some true)
    (kaa : PySem.W.kitOne K (.ref CNoArcs) (.ref CNoArcs) = some true)
    (kab : PySem.W.kitOne K (.ref CNoArcs) (.ref CNoNumber) = some false)
    (kac : PySem.W.kitOne K (.ref CNoArcs) (.ref CUnlike) = some false)
    (kad : PySem.W.kitOne K (.ref CNoArcs) (.ref CTooMany) = some false)
    (kae : PySem.W.kitOne K (.ref CNoArcs) (.ref CNotRead) = some false)
    (kaf : PySem.W.kitOne K (.ref CNoArcs) (.type "ValueError") = some true)
    (eBx : ExcC K CNoNumber)
    (hxmb : PySem.W.exmOne K (.ref CNoNumber) (.ref CRiverError) = some true)
    (kba : PySem.W.kitOne K (.ref CNoNumber) (.ref CNoArcs) = some false)
    (kbb : PySem.W.kitOne K (.ref CNoNumber) (.ref CNoNumber) = some true)
    (kbc : PySem.W.kitOne K (.ref CNoNumber) (.ref CUnlike) = some false)
    (kbd : PySem.W.kitOne K (.ref CNoNumber) (.ref CTooMany) = some false)
    (kbe : PySem.W.kitOne K (.ref CNoNumber) (.ref CNotRead) = some false)
    (kbf : PySem.W.kitOne K (.ref CNoNumber) (.type "ValueError") = some true)
    (eCx : ExcC K CUnlike)
    (hxmc : PySem.W.exmOne K (.ref CUnlike) (.ref CRiverError) = some true)
    (kca : PySem.W.kitOne K (.ref CUnlike) (.ref CNoArcs) = some false)
    (kcb : PySem.W.kitOne K (.ref CUnlike) (.ref CNoNumber) = some false)
    (kcc : PySem.W.kitOne K (.ref CUnlike) (.ref CUnlike) = some true)
    (kcd : PySem.W.kitOne K (.ref CUnlike) (.ref CTooMany) = some false)
    (kce : PySem.W.kitOne K (.ref CUnlike) (.ref CNotRead) = some false)
    (kcf : PySem.W.kitOne K (.ref CUnlike) (.type "ValueError") = some true)
    (eDx : ExcC K CTooMany)
    (hxmd : PySem.W.exmOne K (.ref CTooMany) (.ref CRiverError) = some true)
    (kda : PySem.W.kitOne K (.ref CTooMany) (.ref CNoArcs) = some false)
    (kdb : PySem.W.kitOne K (.ref CTooMany) (.ref CNoNumber) = some false)
    (kdc : PySem.W.kitOne K (.ref CTooMany) (.ref CUnlike) = some false)
    (kdd : PySem.W.kitOne K (.ref CTooMany) (.ref CTooMany) = some true)
    (kde : PySem.W.kitOne K (.ref CTooMany) (.ref CNotRead) = some false)
    (kdf : PySem.W.kitOne K (.ref CTooMany) (.type "ValueError") = some true)
    (eEx : ExcC K CNotRead)
    (hxme : PySem.W.exmOne K (.ref CNotRead) (.ref CRiverError) = some true)
    (kea : PySem.W.kitOne K (.ref CNotRead) (.ref CNoArcs) = some false)
    (keb : PySem.W.kitOne K (.ref CNotRead) (.ref CNoNumber) = some false)
    (kec : PySem.W.kitOne K (.ref CNotRead) (.ref CUnlike) = some false)
    (ked : PySem.W.kitOne K (.ref CNotRead) (.ref CTooMany) = some false)
    (kee : PySem.W.kitOne K (.ref CNotRead) (.ref CNotRead) = some true)
    (kef : PySem.W.kitOne K (.ref CNotRead) (.type "ValueError") = some true)
    (kib : PySem.W.kitOne K (.type "int") (.type "bool") = some false) :
    ∃ fd : FuncData, (∀ (s : Shared) (v : Value), BindsTo s fd ⟨[v], []⟩ [("script", v)]) ∧ ∀ base : Heap, K.In base → base.Ns mainGlobals mg → FnOk l.prog w K mg base CX0 11 fa fd ["script"] (sp_law K) := by
  have e := hfa.symm.trans (PySem.W.mg_of X G a_law)
  cases e
  have mValueError := PySem.W.mg_none_of X G z_ValueError
  have menumerate := PySem.W.mg_none_of X G z_enumerate
  have misinstance := PySem.W.mg_none_of X G z_isinstance
  have mlen := PySem.W.mg_none_of X G z_len
  have mrange := PySem.W.mg_none_of X G z_range
  have mMOST_ARCS := PySem.W.mg_of X G y_MOST_ARCS
  have mMOST_IN_PAIRS := PySem.W.mg_of X G y_MOST_IN_PAIRS
  have mNoArcs := PySem.W.mg_of X G v_NoArcs
  have mNoNumber := PySem.W.mg_of X G v_NoNumber
  have mNotRead := PySem.W.mg_of X G v_NotRead
  have mRiverError := PySem.W.mg_of X G v_RiverError
  have mTooMany := PySem.W.mg_of X G v_TooMany
  have mUnlike := PySem.W.mg_of X G v_Unlike
  have F_is_length := funD_mk (st := s_is_length) l_is_length i_is_length k_is_length
  have b_is_length := F_is_length.binds (ps := ["bridges"]) (fun _ _ _ _ _ _ us hl => match us, hl with | [_], _ => rfl)
  have F_leads_back := funD_mk (st := s_leads_back) l_leads_back i_leads_back k_leads_back
  have b_leads_back := F_leads_back.binds (ps := ["some", "here"]) (fun _ _ _ _ _ _ us hl => match us, hl with | [_, _], _ => rfl)
  have F_all_lead_back := funD_mk (st := s_all_lead_back) l_all_lead_back i_all_lead_back k_all_lead_back
  have b_all_lead_back := F_all_lead_back.binds (ps := ["some"]) (fun _ _ _ _ _ _ us hl => match us, hl with | [_], _ => rfl)
  have F_none_cross := funD_mk (st := s_none_cross) l_none_cross i_none_cross k_none_cross
  have b_none_cross := F_none_cross.binds (ps := ["some"]) (fun _ _ _ _ _ _ us hl => match us, hl with | [_], _ => rfl)
  have F_is_arcs := funD_mk (st := s_is_arcs) l_is_arcs i_is_arcs k_is_arcs
  have b_is_arcs := F_is_arcs.binds (ps := ["some"]) (fun _ _ _ _ _ _ us hl => match us, hl with | [_], _ => rfl)
  have F_refuse_no_arcs := funD_mk (st := s_refuse_no_arcs) l_refuse_no_arcs i_refuse_no_arcs k_refuse_no_arcs
  have b_refuse_no_arcs := binds_d1 (K := K) (fd := PySem.W.fnOf "refuse_no_arcs" "refuse_no_arcs" (defArgs s_refuse_no_arcs) (defBody s_refuse_no_arcs) (defScope s_refuse_no_arcs) (.ref T_refuse_no_arcs) kV_refuse_no_arcs dc_refuse_no_arcs pm_refuse_no_arcs an_refuse_no_arcs cd_refuse_no_arcs ct_refuse_no_arcs) (x := "some") (y := "called") rfl t_refuse_no_arcs d_refuse_no_arcs (fun u => ⟨_, rfl, rfl⟩)
  have bb_refuse_no_arcs := binds_d2 (K := K) (fd := PySem.W.fnOf "refuse_no_arcs" "refuse_no_arcs" (defArgs s_refuse_no_arcs) (defBody s_refuse_no_arcs) (defScope s_refuse_no_arcs) (.ref T_refuse_no_arcs) kV_refuse_no_arcs dc_refuse_no_arcs pm_refuse_no_arcs an_refuse_no_arcs cd_refuse_no_arcs ct_refuse_no_arcs) (x := "some") (y := "called") rfl t_refuse_no_arcs d_refuse_no_arcs (fun u v => ⟨_, rfl, rfl⟩)
  have F_refuse_no_rows := funD_mk (st := s_refuse_no_rows) l_refuse_no_rows i_refuse_no_rows k_refuse_no_rows
  have b_refuse_no_rows := F_refuse_no_rows.binds (ps := ["one", "other"]) (fun _ _ _ _ _ _ us hl => match us, hl with | [_, _], _ => rfl)
  have F_refuse_unlike := funD_mk (st := s_refuse_unlike) l_refuse_unlike i_refuse_unlike k_refuse_unlike
  have b_refuse_unlike := F_refuse_unlike.binds (ps := ["one", "other"]) (fun _ _ _ _ _ _ us hl => match us, hl with | [_, _], _ => rfl)
  have F_refuse_too_many := funD_mk (st := s_refuse_too_many) l_refuse_too_many i_refuse_too_many k_refuse_too_many
  have b_refuse_too_many := F_refuse_too_many.binds (ps := ["bridges"]) (fun _ _ _ _ _ _ us hl => match us, hl with | [_], _ => rfl)
  have F_join_bridges := funD_mk (st := s_join_bridges) l_join_bridges i_join_bridges k_join_bridges
  have b_join_bridges := F_join_bridges.binds (ps := ["arcs", "here", "there"]) (fun _ _ _ _ _ _ us hl => match us, hl with | [_, _, _], _ => rfl)
  have F_word_of := funD_mk (st := s_word_of) l_word_of i_word_of k_word_of
  have b_word_of := F_word_of.binds (ps := ["arcs"]) (fun _ _ _ _ _ _ us hl => match us, hl with | [_], _ => rfl)
  have F_arcs_of := funD_mk (st := s_arcs_of) l_arcs_of i_arcs_of k_arcs_of
  have b_arcs_of := F_arcs_of.binds (ps := ["word"]) (fun _ _ _ _ _ _ us hl => match us, hl with | [_], _ => rfl)
  have F_turned := funD_mk (st := s_turned) l_turned i_turned k_turned
  have b_turned := F_turned.binds (ps := ["arcs", "by"]) (fun _ _ _ _ _ _ us hl => match us, hl with | [_, _], _ => rfl)
  have F_mirrored := funD_mk (st := s_mirrored) l_mirrored i_mirrored k_mirrored
  have b_mirrored := F_mirrored.binds (ps := ["arcs"]) (fun _ _ _ _ _ _ us hl => match us, hl with | [_], _ => rfl)
  have F_beside := funD_mk (st := s_beside) l_beside i_beside k_beside
  have b_beside := F_beside.binds (ps := ["one", "other"]) (fun _ _ _ _ _ _ us hl => match us, hl with | [_, _], _ => rfl)
  have F_covered := funD_mk (st := s_covered) l_covered i_covered k_covered
  have b_covered := F_covered.binds (ps := ["arcs"]) (fun _ _ _ _ _ _ us hl => match us, hl with | [_], _ => rfl)
  have F_refuse_no_number := funD_mk (st := s_refuse_no_number) l_refuse_no_number i_refuse_no_number k_refuse_no_number
  have b_refuse_no_number := F_refuse_no_number.binds (ps := ["number", "least", "most", "called"]) (fun _ _ _ _ _ _ us hl => match us, hl with | [_, _, _, _], _ => rfl)
  have F_refuse_no_size := funD_mk (st := s_refuse_no_size) l_refuse_no_size i_refuse_no_size k_refuse_no_size
  have b_refuse_no_size := F_refuse_no_size.binds (ps := ["size"]) (fun _ _ _ _ _ _ us hl => match us, hl with | [_], _ => rfl)
  have F_all_ways := funD_mk (st := s_all_ways) l_all_ways i_all_ways k_all_ways
  have b_all_ways := F_all_ways.binds (ps := ["size"]) (fun _ _ _ _ _ _ us hl => match us, hl with | [_], _ => rfl)
  have F_many := funD_mk (st := s_many) l_many i_many k_many
  have b_many := F_many.binds (ps := ["size"]) (fun _ _ _ _ _ _ us hl => match us, hl with | [_], _ => rfl)
  have F_arcs_at := funD_mk (st := s_arcs_at) l_arcs_at i_arcs_at k_arcs_at
  have b_arcs_at := F_arcs_at.binds (ps := ["size", "number"]) (fun _ _ _ _ _ _ us hl => match us, hl with | [_, _], _ => rfl)
  have F_number_of := funD_mk (st := s_number_of) l_number_of i_number_of k_number_of
  have b_number_of := F_number_of.binds (ps := ["arcs"]) (fun _ _ _ _ _ _ us hl => match us, hl with | [_], _ => rfl)
  have F_roads := funD_mk (st := s_roads) l_roads i_roads k_roads
  have b_roads := F_roads.binds (ps := ["above", "below"]) (fun _ _ _ _ _ _ us hl => match us, hl with | [_, _], _ => rfl)
  have F_many_roads := funD_mk (st := s_many_roads) l_many_roads i_many_roads k_many_roads
  have b_many_roads := F_many_roads.binds (ps := ["above", "below"]) (fun _ _ _ _ _ _ us hl => match us, hl with | [_, _], _ => rfl)
  have F_one_road := funD_mk (st := s_one_road) l_one_road i_one_road k_one_road
  have b_one_road := F_one_road.binds (ps := ["above"]) (fun _ _ _ _ _ _ us hl => match us, hl with | [_], _ => rfl)
  have F_rows_with := funD_mk (st := s_rows_with) l_rows_with i_rows_with k_rows_with
  have b_rows_with := F_rows_with.binds (ps := ["size", "roads"]) (fun _ _ _ _ _ _ us hl => match us, hl with | [_, _], _ => rfl)
  have F_straight := funD_mk (st := s_straight) l_straight i_straight k_straight
  have b_straight := F_straight.binds (ps := ["size"]) (fun _ _ _ _ _ _ us hl => match us, hl with | [_], _ => rfl)
  have F_hook := funD_mk (st := s_hook) l_hook i_hook k_hook
  have b_hook := F_hook.binds (ps := ["size", "j"]) (fun _ _ _ _ _ _ us hl => match us, hl with | [_, _], _ => rfl)
  have F_laid := funD_mk (st := s_laid) l_laid i_laid k_laid
  have b_laid := F_laid.binds (ps := ["one", "other"]) (fun _ _ _ _ _ _ us hl => match us, hl with | [_, _], _ => rfl)
  have F_closed := funD_mk (st := s_closed) l_closed i_closed k_closed
  have b_closed := F_closed.binds (ps := ["arcs"]) (fun _ _ _ _ _ _ us hl => match us, hl with | [_], _ => rfl)
  have F_law_cell_at := funD_mk (st := s_law_cell_at) l_law_cell_at i_law_cell_at k_law_cell_at
  have b_law_cell_at := F_law_cell_at.binds (ps := ["script", "k"]) (fun _ _ _ _ _ _ us hl => match us, hl with | [_, _], _ => rfl)
  have F_law_which := funD_mk (st := s_law_which) l_law_which i_law_which k_law_which
  have b_law_which := F_law_which.binds (ps := ["e"]) (fun _ _ _ _ _ _ us hl => match us, hl with | [_], _ => rfl)
  have F_law_of_two := funD_mk (st := s_law_of_two) l_law_of_two i_law_of_two k_law_of_two
  have b_law_of_two := F_law_of_two.binds (ps := ["way", "one", "other"]) (fun _ _ _ _ _ _ us hl => match us, hl with | [_, _, _], _ => rfl)
  have F_law_no_arcs := funD_mk (st := s_law_no_arcs) l_law_no_arcs i_law_no_arcs k_law_no_arcs
  have b_law_no_arcs := F_law_no_arcs.binds (ps := ["cell", "far"]) (fun _ _ _ _ _ _ us hl => match us, hl with | [_, _], _ => rfl)
  have F_law_unlike := funD_mk (st := s_law_unlike) l_law_unlike i_law_unlike k_law_unlike
  have b_law_unlike := F_law_unlike.binds (ps := ["cell"]) (fun _ _ _ _ _ _ us hl => match us, hl with | [_], _ => rfl)
  have F_law_no_number := funD_mk (st := s_law_no_number) l_law_no_number i_law_no_number k_law_no_number
  have b_law_no_number := F_law_no_number.binds (ps := ["cell", "far"]) (fun _ _ _ _ _ _ us hl => match us, hl with | [_, _], _ => rfl)
  have F_law := funD_mk (st := s_law) l_law i_law k_law
  refine ⟨PySem.W.fnOf "law" "law" (defArgs s_law) (defBody s_law) (defScope s_law) .none kV_law dc_law pm_law an_law cd_law ct_law, fun s v => .of_eq rfl, fun base _ _ => ?_⟩
  have o_is_length := ok_is_length (P := l.prog) (w := w) (mg := mg) (base := base) F_is_length mMOST_ARCS
  have c_is_length : Fn l.prog w K mg base CX0 "is_length" ["bridges"] [] 1 sp_is_length := ⟨f_is_length, _, _, o_is_length, b_is_length, .nil, k_is_length, PySem.W.mg_of X G a_is_length⟩
  have o_leads_back := ok_leads_back (P := l.prog) (w := w) (mg := mg) (base := base) F_leads_back mlen
  have c_leads_back : Fn l.prog w K mg base CX0 "leads_back" ["some", "here"] [] 1 (sp_leads_back K) := ⟨f_leads_back, _, _, o_leads_back, b_leads_back, .nil, k_leads_back, PySem.W.mg_of X G a_leads_back⟩
  have o_all_lead_back := ok_all_lead_back (P := l.prog) (w := w) (mg := mg) (base := base) F_all_lead_back c_leads_back mlen mrange
  have c_all_lead_back : Fn l.prog w K mg base CX0 "all_lead_back" ["some"] [] 2 (sp_all_lead_back K) := ⟨f_all_lead_back, _, _, o_all_lead_back, b_all_lead_back, .nil, k_all_lead_back, PySem.W.mg_of X G a_all_lead_back⟩
  have o_none_cross := ok_none_cross (P := l.prog) (w := w) (mg := mg) (base := base) F_none_cross menumerate
  have c_none_cross : Fn l.prog w K mg base CX0 "none_cross" ["some"] [] 1 (sp_none_cross K) := ⟨f_none_cross, _, _, o_none_cross, b_none_cross, .nil, k_none_cross, PySem.W.mg_of X G a_none_cross⟩
  have o_is_arcs := ok_is_arcs (P := l.prog) (w := w) (mg := mg) (base := base) F_is_arcs c_is_length c_all_lead_back c_none_cross mlen
  have c_is_arcs : Fn l.prog w K mg base CX0 "is_arcs" ["some"] [] 3 (sp_is_arcs K) := ⟨f_is_arcs, _, _, o_is_arcs, b_is_arcs, .nil, k_is_arcs, PySem.W.mg_of X G a_is_arcs⟩
  have o_refuse_no_arcs := ok_refuse_no_arcs (P := l.prog) (w := w) (mg := mg) (base := base) F_refuse_no_arcs c_is_arcs mNoArcs xNoArcs
  have c_refuse_no_arcs : Fn l.prog w K mg base (CXE l.prog w) "refuse_no_arcs" ["some", "called"] [.str "the list"] 4 (sp_refuse_no_arcs K CNoArcs) := ⟨f_refuse_no_arcs, _, _, o_refuse_no_arcs, b_refuse_no_arcs, .cons ⟨_, rfl⟩ .nil, k_refuse_no_arcs, PySem.W.mg_of X G a_refuse_no_arcs⟩
  have cc_refuse_no_arcs : Fn l.prog w K mg base (CXE l.prog w) "refuse_no_arcs" ["some", "called"] [] 4 (sp_refuse_no_arcs K CNoArcs) := ⟨f_refuse_no_arcs, _, _, o_refuse_no_arcs, bb_refuse_no_arcs, .nil, k_refuse_no_arcs, PySem.W.mg_of X G a_refuse_no_arcs⟩
  have o_refuse_no_rows := ok_refuse_no_rows (P := l.prog) (w := w) (mg := mg) (base := base) F_refuse_no_rows cc_refuse_no_arcs
  have c_refuse_no_rows : Fn l.prog w K mg base (CXE l.prog w) "refuse_no_rows" ["one", "other"] [] 5 (sp_refuse_no_rows K CNoArcs) := ⟨f_refuse_no_rows, _, _, o_refuse_no_rows, b_refuse_no_rows, .nil, k_refuse_no_rows, PySem.W.mg_of X G a_refuse_no_rows⟩
  have o_refuse_unlike := ok_refuse_unlike (P := l.prog) (w := w) (mg := mg) (base := base) F_refuse_unlike c_refuse_no_rows mlen mUnlike xUnlike
  have c_refuse_unlike : Fn l.prog w K mg base (CXE l.prog w) "refuse_unlike" ["one", "other"] [] 6 (sp_refuse_unlike K CNoArcs CUnlike) := ⟨f_refuse_unlike, _, _, o_refuse_unlike, b_refuse_unlike, .nil, k_refuse_unlike, PySem.W.mg_of X G a_refuse_unlike⟩
  have o_refuse_too_many := ok_refuse_too_many (P := l.prog) (w := w) (mg := mg) (base := base) F_refuse_too_many mMOST_ARCS mTooMany xTooMany
  have c_refuse_too_many : Fn l.prog w K mg base (CXE l.prog w) "refuse_too_many" ["bridges"] [] 1 (sp_refuse_too_many CTooMany) := ⟨f_refuse_too_many, _, _, o_refuse_too_many, b_refuse_too_many, .nil, k_refuse_too_many, PySem.W.mg_of X G a_refuse_too_many⟩
  have o_join_bridges := ok_join_bridges (P := l.prog) (w := w) (mg := mg) (base := base) F_join_bridges 
  have c_join_bridges : Fn l.prog w K mg base CX0 "join_bridges" ["arcs", "here", "there"] [] 1 sp_join_bridges := ⟨f_join_bridges, _, _, o_join_bridges, b_join_bridges, .nil, k_join_bridges, PySem.W.mg_of X G a_join_bridges⟩
  have o_word_of := ok_word_of (P := l.prog) (w := w) (mg := mg) (base := base) F_word_of c_refuse_no_arcs
  have c_word_of : Fn l.prog w K mg base (CXE l.prog w) "word_of" ["arcs"] [] 5 (sp_word_of K CNoArcs) := ⟨f_word_of, _, _, o_word_of, b_word_of, .nil, k_word_of, PySem.W.mg_of X G a_word_of⟩
  have o_arcs_of := ok_arcs_of (P := l.prog) (w := w) (mg := mg) (base := base) F_arcs_of c_is_length c_join_bridges mlen menumerate mMOST_ARCS mNotRead xNotRead
  have c_arcs_of : Fn l.prog w K mg base (CXE l.prog w) "arcs_of" ["word"] [] 2 (sp_arcs_of CNotRead) := ⟨f_arcs_of, _, _, o_arcs_of, b_arcs_of, .nil, k_arcs_of, PySem.W.mg_of X G a_arcs_of⟩
  have o_turned := ok_turned (P := l.prog) (w := w) (mg := mg) (base := base) F_turned c_refuse_no_arcs
  have c_turned : Fn l.prog w K mg base (CXE l.prog w) "turned" ["arcs", "by"] [] 5 (sp_turned K CNoArcs) := ⟨f_turned, _, _, o_turned, b_turned, .nil, k_turned, PySem.W.mg_of X G a_turned⟩
  have o_mirrored := ok_mirrored (P := l.prog) (w := w) (mg := mg) (base := base) F_mirrored c_refuse_no_arcs
  have c_mirrored : Fn l.prog w K mg base (CXE l.prog w) "mirrored" ["arcs"] [] 5 (sp_mirrored K CNoArcs) := ⟨f_mirrored, _, _, o_mirrored, b_mirrored, .nil, k_mirrored, PySem.W.mg_of X G a_mirrored⟩
  have o_beside := ok_beside (P := l.prog) (w := w) (mg := mg) (base := base) F_beside c_refuse_no_rows c_refuse_too_many mlen
  have c_beside : Fn l.prog w K mg base (CXE l.prog w) "beside" ["one", "other"] [] 6 (sp_beside K CNoArcs CTooMany) := ⟨f_beside, _, _, o_beside, b_beside, .nil, k_beside, PySem.W.mg_of X G a_beside⟩
  have o_covered := ok_covered (P := l.prog) (w := w) (mg := mg) (base := base) F_covered c_refuse_no_arcs c_refuse_too_many mlen
  have c_covered : Fn l.prog w K mg base (CXE l.prog w) "covered" ["arcs"] [] 5 (sp_covered K CNoArcs CTooMany) := ⟨f_covered, _, _, o_covered, b_covered, .nil, k_covered, PySem.W.mg_of X G a_covered⟩
  have o_refuse_no_number := ok_refuse_no_number (P := l.prog) (w := w) (mg := mg) (base := base) F_refuse_no_number mNoNumber xNoNumber
  have c_refuse_no_number : Fn l.prog w K mg base (CXE l.prog w) "refuse_no_number" ["number", "least", "most", "called"] [] 1 (sp_refuse_no_number CNoNumber) := ⟨f_refuse_no_number, _, _, o_refuse_no_number, b_refuse_no_number, .nil, k_refuse_no_number, PySem.W.mg_of X G a_refuse_no_number⟩
  have o_refuse_no_size := ok_refuse_no_size (P := l.prog) (w := w) (mg := mg) (base := base) F_refuse_no_size c_refuse_no_number mMOST_ARCS
  have c_refuse_no_size : Fn l.prog w K mg base (CXE l.prog w) "refuse_no_size" ["size"] [] 2 (sp_refuse_no_size CNoNumber) := ⟨f_refuse_no_size, _, _, o_refuse_no_size, b_refuse_no_size, .nil, k_refuse_no_size, PySem.W.mg_of X G a_refuse_no_size⟩
  have o_all_ways := ok_all_ways (P := l.prog) (w := w) (mg := mg) (base := base) F_all_ways mrange
  have c_all_ways : Fn l.prog w K mg base CX0 "all_ways" ["size"] [] 1 sp_all_ways := ⟨f_all_ways, _, _, o_all_ways, b_all_ways, .nil, k_all_ways, PySem.W.mg_of X G a_all_ways⟩
  have o_many := ok_many (P := l.prog) (w := w) (mg := mg) (base := base) F_many c_refuse_no_size c_all_ways
  have c_many : Fn l.prog w K mg base (CXE l.prog w) "many" ["size"] [] 3 (sp_many CNoNumber) := ⟨f_many, _, _, o_many, b_many, .nil, k_many, PySem.W.mg_of X G a_many⟩
  have o_arcs_at := ok_arcs_at (P := l.prog) (w := w) (mg := mg) (base := base) F_arcs_at c_refuse_no_number c_many
  have c_arcs_at : Fn l.prog w K mg base (CXE l.prog w) "arcs_at" ["size", "number"] [] 4 (sp_arcs_at CNoNumber) := ⟨f_arcs_at, _, _, o_arcs_at, b_arcs_at, .nil, k_arcs_at, PySem.W.mg_of X G a_arcs_at⟩
  have o_number_of := ok_number_of (P := l.prog) (w := w) (mg := mg) (base := base) F_number_of c_word_of
  have c_number_of : Fn l.prog w K mg base (CXE l.prog w) "number_of" ["arcs"] [] 6 (sp_number_of K CNoArcs) := ⟨f_number_of, _, _, o_number_of, b_number_of, .nil, k_number_of, PySem.W.mg_of X G a_number_of⟩
  have o_roads := ok_roads (P := l.prog) (w := w) (mg := mg) (base := base) F_roads c_refuse_unlike
  have c_roads : Fn l.prog w K mg base (CXE l.prog w) "roads" ["above", "below"] [] 7 (sp_roads K CNoArcs CUnlike) := ⟨f_roads, _, _, o_roads, b_roads, .nil, k_roads, PySem.W.mg_of X G a_roads⟩
  have o_many_roads := ok_many_roads (P := l.prog) (w := w) (mg := mg) (base := base) F_many_roads c_roads mlen
  have c_many_roads : Fn l.prog w K mg base (CXE l.prog w) "many_roads" ["above", "below"] [] 8 (sp_many_roads K CNoArcs CUnlike) := ⟨f_many_roads, _, _, o_many_roads, b_many_roads, .nil, k_many_roads, PySem.W.mg_of X G a_many_roads⟩
  have o_one_road := ok_one_road (P := l.prog) (w := w) (mg := mg) (base := base) F_one_road c_refuse_no_arcs
  have c_one_road : Fn l.prog w K mg base (CXE l.prog w) "one_road" ["above"] [] 5 (sp_one_road K CNoArcs) := ⟨f_one_road, _, _, o_one_road, b_one_road, .nil, k_one_road, PySem.W.mg_of X G a_one_road⟩
  have o_rows_with := ok_rows_with (P := l.prog) (w := w) (mg := mg) (base := base) F_rows_with c_refuse_no_number mMOST_IN_PAIRS
  have c_rows_with : Fn l.prog w K mg base (CXE l.prog w) "rows_with" ["size", "roads"] [] 2 (sp_rows_with CNoNumber) := ⟨f_rows_with, _, _, o_rows_with, b_rows_with, .nil, k_rows_with, PySem.W.mg_of X G a_rows_with⟩
  have o_straight := ok_straight (P := l.prog) (w := w) (mg := mg) (base := base) F_straight c_refuse_no_size mrange
  have c_straight : Fn l.prog w K mg base (CXE l.prog w) "straight" ["size"] [] 3 (sp_straight CNoNumber) := ⟨f_straight, _, _, o_straight, b_straight, .nil, k_straight, PySem.W.mg_of X G a_straight⟩
  have o_hook := ok_hook (P := l.prog) (w := w) (mg := mg) (base := base) F_hook c_straight c_refuse_no_number
  have c_hook : Fn l.prog w K mg base (CXE l.prog w) "hook" ["size", "j"] [] 4 (sp_hook CNoNumber) := ⟨f_hook, _, _, o_hook, b_hook, .nil, k_hook, PySem.W.mg_of X G a_hook⟩
  have o_laid := ok_laid (P := l.prog) (w := w) (mg := mg) (base := base) F_laid c_refuse_unlike
  have c_laid : Fn l.prog w K mg base (CXE l.prog w) "laid" ["one", "other"] [] 7 (sp_laid K CNoArcs CUnlike) := ⟨f_laid, _, _, o_laid, b_laid, .nil, k_laid, PySem.W.mg_of X G a_laid⟩
  have o_closed := ok_closed (P := l.prog) (w := w) (mg := mg) (base := base) F_closed c_refuse_no_arcs
  have c_closed : Fn l.prog w K mg base (CXE l.prog w) "closed" ["arcs"] [] 5 (sp_closed K CNoArcs) := ⟨f_closed, _, _, o_closed, b_closed, .nil, k_closed, PySem.W.mg_of X G a_closed⟩
  have o_law_cell_at := ok_law_cell_at (P := l.prog) (w := w) (mg := mg) (base := base) F_law_cell_at mlen
  have c_law_cell_at : Fn l.prog w K mg base CX0 "_law_cell_at" ["script", "k"] [] 1 (sp_law_cell_at K) := ⟨f_law_cell_at, _, _, o_law_cell_at, b_law_cell_at, .nil, k_law_cell_at, PySem.W.mg_of X G a_law_cell_at⟩
  have o_law_which := ok_law_which (P := l.prog) (w := w) (mg := mg) (base := base) F_law_which misinstance mValueError mNoArcs mNoNumber mUnlike mTooMany mNotRead
  have c_law_which : FnM l.prog w K mg base "_law_which" ["e"] 1 (sp_law_which K CNoArcs CNoNumber CUnlike CTooMany CNotRead) := ⟨f_law_which, _, o_law_which, b_law_which, k_law_which, PySem.W.mg_of X G a_law_which⟩
  have o_law_of_two := ok_law_of_two (P := l.prog) (w := w) (mg := mg) (base := base) F_law_of_two c_beside c_roads c_many_roads c_laid
  have c_law_of_two : Fn l.prog w K mg base (CXE l.prog w) "_law_of_two" ["way", "one", "other"] [] 9 (sp_law_of_two K CNoArcs CUnlike CTooMany) := ⟨f_law_of_two, _, _, o_law_of_two, b_law_of_two, .nil, k_law_of_two, PySem.W.mg_of X G a_law_of_two⟩
  have o_law_no_arcs := ok_law_no_arcs (P := l.prog) (w := w) (mg := mg) (base := base) F_law_no_arcs c_law_of_two c_word_of c_turned c_mirrored c_covered c_number_of c_one_road c_closed mrange
  have c_law_no_arcs : Fn l.prog w K mg base (CXE l.prog w) "_law_no_arcs" ["cell", "far"] [] 10 (sp_law_no_arcs CNoArcs) := ⟨f_law_no_arcs, _, _, o_law_no_arcs, b_law_no_arcs, .nil, k_law_no_arcs, PySem.W.mg_of X G a_law_no_arcs⟩
  have o_law_unlike := ok_law_unlike (P := l.prog) (w := w) (mg := mg) (base := base) F_law_unlike c_law_of_two
  have c_law_unlike : Fn l.prog w K mg base (CXE l.prog w) "_law_unlike" ["cell"] [] 10 (sp_law_unlike CUnlike) := ⟨f_law_unlike, _, _, o_law_unlike, b_law_unlike, .nil, k_law_unlike, PySem.W.mg_of X G a_law_unlike⟩
  have o_law_no_number := ok_law_no_number (P := l.prog) (w := w) (mg := mg) (base := base) F_law_no_number c_many c_arcs_at c_straight c_hook c_rows_with
  have c_law_no_number : Fn l.prog w K mg base (CXE l.prog w) "_law_no_number" ["cell", "far"] [] 5 (sp_law_no_number CNoNumber) := ⟨f_law_no_number, _, _, o_law_no_number, b_law_no_number, .nil, k_law_no_number, PySem.W.mg_of X G a_law_no_number⟩
  exact ok_law F_law c_law_cell_at c_law_no_arcs c_law_no_number c_law_unlike c_covered c_law_of_two c_arcs_of c_law_which mRiverError eAx hxma kaa kab kac kad kae kaf eBx hxmb kba kbb kbc kbd kbe kbf eCx hxmc kca kcb kcc kcd kce kcf eDx hxmd kda kdb kdc kdd kde kdf eEx hxme kea keb kec ked kee kef mrange
theorem walk {l : PySem.W.OpenLaw} {q : Program} {loose : List Str} {XP : (Str → Option Value) → Heap → Prop} {YP : World → Heap → Prop} {d : DefRec} {K : Params → PySem.W.Frag} (hn : l.most = some 63) (hdf : d.params.defaults = [])
    (hY : ∀ (w : World) (h : Heap), YP w h → (K w.params).In h)
    (F : ∀ (w : World) (mg : Str → Option Value) (fa : Addr) (h : Heap), (K w.params).In h → h.Ns mainGlobals mg → mg d.name = some (.ref fa) →
      ∃ fd : FuncData, (∀ (s : Shared) (u : Value), BindsTo s fd ⟨[u], []⟩ [("script", u)]) ∧ ∀ base : Heap, (K w.params).In base → base.Ns mainGlobals mg → FnOk l.prog w (K w.params) mg base CX0 11 fa fd ["script"] (sp_law (K w.params))) :
    PySem.W.WalkO q loose XP YP l.row.toRowW d [] (fun f vs => PySem.call f vs) :=
  L2.walk_of (n := 63) (k := 11) (x := "script") (CX := fun _ => CX0) (sp := fun w => sp_law (K w.params)) hn (by decide) hdf ⟨rfl, by decide, by decide⟩ hY F (fun _ _ a ns hl _ hS => ⟨a, ns, rfl, hS, hl, fun _ => rfl⟩) fun _ _ _ _ _ z => z
end Rl
open PySem PySem.W PyProof.Rows
set_option maxRecDepth 100000 in
set_option maxHeartbeats 0 in
theorem PySem.Challenge.cw_riverloops_k14_each_refusal_its_own_holds : PySem.Challenge.rw_riverloops_k14_each_refusal_its_own.Holds := by
  w_on; o_law; k_head; (case hw => w_witness2)
  k_fill
  refine Rl.walk (l := PySem.Challenge.rw_riverloops_k14_each_refusal_its_own) rfl rfl (fun w h Y => PySem.W.kIn_of Y) ?F
  case F =>
    intro w mg fa h KX G hmg
    refine' Rl.all_mk KX G hmg ?a_is_length ?l_is_length ?i_is_length ?k_is_length ?a_leads_back ?l_leads_back ?i_leads_back ?k_leads_back ?a_all_lead_back ?l_all_lead_back ?i_all_lead_back ?k_all_lead_back ?a_none_cross ?l_none_cross ?i_none_cross ?k_none_cross ?a_is_arcs ?l_is_arcs ?i_is_arcs ?k_is_arcs ?a_refuse_no_arcs ?l_refuse_no_arcs ?i_refuse_no_arcs ?k_refuse_no_arcs ?t_refuse_no_arcs ?d_refuse_no_arcs ?a_refuse_no_rows ?l_refuse_no_rows ?i_refuse_no_rows ?k_refuse_no_rows ?a_refuse_unlike ?l_refuse_unlike ?i_refuse_unlike ?k_refuse_unlike ?a_refuse_too_many ?l_refuse_too_many ?i_refuse_too_many ?k_refuse_too_many ?a_join_bridges ?l_join_bridges ?i_join_bridges ?k_join_bridges ?a_word_of ?l_word_of ?i_word_of ?k_word_of ?a_arcs_of ?l_arcs_of ?i_arcs_of ?k_arcs_of ?a_turned ?l_turned ?i_turned ?k_turned ?a_mirrored ?l_mirrored ?i_mirrored ?k_mirrored ?a_beside ?l_beside ?i_beside ?k_beside ?a_covered ?l_covered ?i_covered ?k_covered ?a_refuse_no_number ?l_refuse_no_number ?i_refuse_no_number ?k_refuse_no_number ?a_refuse_no_size ?l_refuse_no_size ?i_refuse_no_size ?k_refuse_no_size ?a_all_ways ?l_all_ways ?i_all_ways ?k_all_ways ?a_many ?l_many ?i_many ?k_many ?a_arcs_at ?l_arcs_at ?i_arcs_at ?k_arcs_at ?a_number_of ?l_number_of ?i_number_of ?k_number_of ?a_roads ?l_roads ?i_roads ?k_roads ?a_many_roads ?l_many_roads ?i_many_roads ?k_many_roads ?a_one_road ?l_one_road ?i_one_road ?k_one_road ?a_rows_with ?l_rows_with ?i_rows_with ?k_rows_with ?a_straight ?l_straight ?i_straight ?k_straight ?a_hook ?l_hook ?i_hook ?k_hook ?a_laid ?l_laid ?i_laid ?k_laid ?a_closed ?l_closed ?i_closed ?k_closed ?a_law_cell_at ?l_law_cell_at ?i_law_cell_at ?k_law_cell_at ?a_law_which ?l_law_which ?i_law_which ?k_law_which ?a_law_of_two ?l_law_of_two ?i_law_of_two ?k_law_of_two ?a_law_no_arcs ?l_law_no_arcs ?i_law_no_arcs ?k_law_no_arcs ?a_law_unlike ?l_law_unlike ?i_law_unlike ?k_law_unlike ?a_law_no_number ?l_law_no_number ?i_law_no_number ?k_law_no_number ?a_law ?l_law ?i_law ?k_law ?z_ValueError ?z_enumerate ?z_isinstance ?z_len ?z_range ?y_MOST_ARCS ?y_MOST_IN_PAIRS ?v_NoArcs ?v_NoNumber ?v_NotRead ?v_RiverError ?v_TooMany ?v_Unlike ?xNoArcs ?xNoNumber ?xUnlike ?xTooMany ?xNotRead ?eAx ?hxma ?kaa ?kab ?kac ?kad ?kae ?kaf ?eBx ?hxmb ?kba ?kbb ?kbc ?kbd ?kbe ?kbf ?eCx ?hxmc ?kca ?kcb ?kcc ?kcd ?kce ?kcf ?eDx ?hxmd ?kda ?kdb ?kdc ?kdd ?kde ?kdf ?eEx ?hxme ?kea ?keb ?kec ?ked ?kee ?kef ?kib
    (case a_is_length => first | k_is | rfl)
    (case l_is_length => first | k_is | rfl)
    (case i_is_length => first | k_is | rfl)
    (case k_is_length => first | k_is | rfl)
    (case a_leads_back => first | k_is | rfl)
    (case l_leads_back => first | k_is | rfl)
    (case i_leads_back => first | k_is | rfl)
    (case k_leads_back => first | k_is | rfl)
    (case a_all_lead_back => first | k_is | rfl)
    (case l_all_lead_back => first | k_is | rfl)
    (case i_all_lead_back => first | k_is | rfl)
    (case k_all_lead_back => first | k_is | rfl)
    (case a_none_cross => first | k_is | rfl)
    (case l_none_cross => first | k_is | rfl)
    (case i_none_cross => first | k_is | rfl)
    (case k_none_cross => first | k_is | rfl)
    (case a_is_arcs => first | k_is | rfl)
    (case l_is_arcs => first | k_is | rfl)
    (case i_is_arcs => first | k_is | rfl)
    (case k_is_arcs => first | k_is | rfl)
    (case a_refuse_no_arcs => first | k_is | rfl)
    (case l_refuse_no_arcs => first | k_is | rfl)
    (case i_refuse_no_arcs => first | k_is | rfl)
    (case k_refuse_no_arcs => first | k_is | rfl)
    (case t_refuse_no_arcs => first | k_is | rfl)
    (case d_refuse_no_arcs => first | k_is | rfl)
    (case a_refuse_no_rows => first | k_is | rfl)
    (case l_refuse_no_rows => first | k_is | rfl)
    (case i_refuse_no_rows => first | k_is | rfl)
    (case k_refuse_no_rows => first | k_is | rfl)
    (case a_refuse_unlike => first | k_is | rfl)
    (case l_refuse_unlike => first | k_is | rfl)
    (case i_refuse_unlike => first | k_is | rfl)
    (case k_refuse_unlike => first | k_is | rfl)
    (case a_refuse_too_many => first | k_is | rfl)
    (case l_refuse_too_many => first | k_is | rfl)
    (case i_refuse_too_many => first | k_is | rfl)
    (case k_refuse_too_many => first | k_is | rfl)
    (case a_join_bridges => first | k_is | rfl)
    (case l_join_bridges => first | k_is | rfl)
    (case i_join_bridges => first | k_is | rfl)
    (case k_join_bridges => first | k_is | rfl)
    (case a_word_of => first | k_is | rfl)
    (case l_word_of => first | k_is | rfl)
    (case i_word_of => first | k_is | rfl)
    (case k_word_of => first | k_is | rfl)
    (case a_arcs_of => first | k_is | rfl)
    (case l_arcs_of => first | k_is | rfl)
    (case i_arcs_of => first | k_is | rfl)
    (case k_arcs_of => first | k_is | rfl)
    (case a_turned => first | k_is | rfl)
    (case l_turned => first | k_is | rfl)
    (case i_turned => first | k_is | rfl)
    (case k_turned => first | k_is | rfl)
    (case a_mirrored => first | k_is | rfl)
    (case l_mirrored => first | k_is | rfl)
    (case i_mirrored => first | k_is | rfl)
    (case k_mirrored => first | k_is | rfl)
    (case a_beside => first | k_is | rfl)
    (case l_beside => first | k_is | rfl)
    (case i_beside => first | k_is | rfl)
    (case k_beside => first | k_is | rfl)
    (case a_covered => first | k_is | rfl)
    (case l_covered => first | k_is | rfl)
    (case i_covered => first | k_is | rfl)
    (case k_covered => first | k_is | rfl)
    (case a_refuse_no_number => first | k_is | rfl)
    (case l_refuse_no_number => first | k_is | rfl)
    (case i_refuse_no_number => first | k_is | rfl)
    (case k_refuse_no_number => first | k_is | rfl)
    (case a_refuse_no_size => first | k_is | rfl)
    (case l_refuse_no_size => first | k_is | rfl)
    (case i_refuse_no_size => first | k_is | rfl)
    (case k_refuse_no_size => first | k_is | rfl)
    (case a_all_ways => first | k_is | rfl)
    (case l_all_ways => first | k_is | rfl)
    (case i_all_ways => first | k_is | rfl)
    (case k_all_ways => first | k_is | rfl)
    (case a_many => first | k_is | rfl)
    (case l_many => first | k_is | rfl)
    (case i_many => first | k_is | rfl)
    (case k_many => first | k_is | rfl)
    (case a_arcs_at => first | k_is | rfl)
    (case l_arcs_at => first | k_is | rfl)
    (case i_arcs_at => first | k_is | rfl)
    (case k_arcs_at => first | k_is | rfl)
    (case a_number_of => first | k_is | rfl)
    (case l_number_of => first | k_is | rfl)
    (case i_number_of => first | k_is | rfl)
    (case k_number_of => first | k_is | rfl)
    (case a_roads => first | k_is | rfl)
    (case l_roads => first | k_is | rfl)
    (case i_roads => first | k_is | rfl)
    (case k_roads => first | k_is | rfl)
    (case a_many_roads => first | k_is | rfl)
    (case l_many_roads => first | k_is | rfl)
    (case i_many_roads => first | k_is | rfl)
    (case k_many_roads => first | k_is | rfl)
    (case a_one_road => first | k_is | rfl)
    (case l_one_road => first | k_is | rfl)
    (case i_one_road => first | k_is | rfl)
    (case k_one_road => first | k_is | rfl)
    (case a_rows_with => first | k_is | rfl)
    (case l_rows_with => first | k_is | rfl)
    (case i_rows_with => first | k_is | rfl)
    (case k_rows_with => first | k_is | rfl)
    (case a_straight => first | k_is | rfl)
    (case l_straight => first | k_is | rfl)
    (case i_straight => first | k_is | rfl)
    (case k_straight => first | k_is | rfl)
    (case a_hook => first | k_is | rfl)
    (case l_hook => first | k_is | rfl)
    (case i_hook => first | k_is | rfl)
    (case k_hook => first | k_is | rfl)
    (case a_laid => first | k_is | rfl)
    (case l_laid => first | k_is | rfl)
    (case i_laid => first | k_is | rfl)
    (case k_laid => first | k_is | rfl)
    (case a_closed => first | k_is | rfl)
    (case l_closed => first | k_is | rfl)
    (case i_closed => first | k_is | rfl)
    (case k_closed => first | k_is | rfl)
    (case a_law_cell_at => first | k_is | rfl)
    (case l_law_cell_at => first | k_is | rfl)
    (case i_law_cell_at => first | k_is | rfl)
    (case k_law_cell_at => first | k_is | rfl)
    (case a_law_which => first | k_is | rfl)
    (case l_law_which => first | k_is | rfl)
    (case i_law_which => first | k_is | rfl)
    (case k_law_which => first | k_is | rfl)
    (case a_law_of_two => first | k_is | rfl)
    (case l_law_of_two => first | k_is | rfl)
    (case i_law_of_two => first | k_is | rfl)
    (case k_law_of_two => first | k_is | rfl)
    (case a_law_no_arcs => first | k_is | rfl)
    (case l_law_no_arcs => first | k_is | rfl)
    (case i_law_no_arcs => first | k_is | rfl)
    (case k_law_no_arcs => first | k_is | rfl)
    (case a_law_unlike => first | k_is | rfl)
    (case l_law_unlike => first | k_is | rfl)
    (case i_law_unlike => first | k_is | rfl)
    (case k_law_unlike => first | k_is | rfl)
    (case a_law_no_number => first | k_is | rfl)
    (case l_law_no_number => first | k_is | rfl)
    (case i_law_no_number => first | k_is | rfl)
    (case k_law_no_number => first | k_is | rfl)
    (case a_law => first | k_is | rfl)
    (case l_law => first | k_is | rfl)
    (case i_law => first | k_is | rfl)
    (case k_law => first | k_is | rfl)
    (case z_ValueError => first | k_is | rfl)
    (case z_enumerate => first | k_is | rfl)
    (case z_isinstance => first | k_is | rfl)
    (case z_len => first | k_is | rfl)
    (case z_range => first | k_is | rfl)
    (case y_MOST_ARCS => first | k_is | rfl)
    (case y_MOST_IN_PAIRS => first | k_is | rfl)
    (case v_NoArcs => first | k_is | rfl)
    (case v_NoNumber => first | k_is | rfl)
    (case v_NotRead => first | k_is | rfl)
    (case v_RiverError => first | k_is | rfl)
    (case v_TooMany => first | k_is | rfl)
    (case v_Unlike => first | k_is | rfl)
    (case xNoArcs => (try dsimp only [L2.veMro]); k_exc)
    (case xNoNumber => (try dsimp only [L2.veMro]); k_exc)
    (case xUnlike => (try dsimp only [L2.veMro]); k_exc)
    (case xTooMany => (try dsimp only [L2.veMro]); k_exc)
    (case xNotRead => (try dsimp only [L2.veMro]); k_exc)
    (case eAx => refine ⟨?_, ?_, ?_, ?_, ?_, ?_, ?_, ?_⟩ <;> first | k_is | rfl)
    (case hxma => first | k_is | rfl)
    (case kaa => first | k_is | rfl)
    (case kab => first | k_is | rfl)
    (case kac => first | k_is | rfl)
    (case kad => first | k_is | rfl)
    (case kae => first | k_is | rfl)
    (case kaf => first | k_is | rfl)
    (case eBx => refine ⟨?_, ?_, ?_, ?_, ?_, ?_, ?_, ?_⟩ <;> first | k_is | rfl)
    (case hxmb => first | k_is | rfl)
    (case kba => first | k_is | rfl)
    (case kbb => first | k_is | rfl)
    (case kbc => first | k_is | rfl)
    (case kbd => first | k_is | rfl)
    (case kbe => first | k_is | rfl)
    (case kbf => first | k_is | rfl)
    (case eCx => refine ⟨?_, ?_, ?_, ?_, ?_, ?_, ?_, ?_⟩ <;> first | k_is | rfl)
    (case hxmc => first | k_is | rfl)
    (case kca => first | k_is | rfl)
    (case kcb => first | k_is | rfl)
    (case kcc => first | k_is | rfl)
    (case kcd => first | k_is | rfl)
    (case kce => first | k_is | rfl)
    (case kcf => first | k_is | rfl)
    (case eDx => refine ⟨?_, ?_, ?_, ?_, ?_, ?_, ?_, ?_⟩ <;> first | k_is | rfl)
    (case hxmd => first | k_is | rfl)
    (case kda => first | k_is | rfl)
    (case kdb => first | k_is | rfl)
    (case kdc => first | k_is | rfl)
    (case kdd => first | k_is | rfl)
    (case kde => first | k_is | rfl)
    (case kdf => first | k_is | rfl)
    (case eEx => refine ⟨?_, ?_, ?_, ?_, ?_, ?_, ?_, ?_⟩ <;> first | k_is | rfl)
    (case hxme => first | k_is | rfl)
    (case kea => first | k_is | rfl)
    (case keb => first | k_is | rfl)
    (case kec => first | k_is | rfl)
    (case ked => first | k_is | rfl)
    (case kee => first | k_is | rfl)
    (case kef => first | k_is | rfl)
    (case kib => first | k_is | rfl)
