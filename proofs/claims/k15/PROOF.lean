import PyProof.Rows.All
import Wide.All
import OpenK.AllK
import Wide.FinOn
import Lean
import PyProof.EqAt
import PyProof.EqKinds
import PyProof.TupleCall
import PySem.Challenge.RW_pairlings_k15_texts_refused
set_option Elab.async false
set_option linter.all false
set_option maxRecDepth 100000
/-! THE HAND LAYER, for ints, bools, texts, own classes, LISTS and tuples (index, slices, in, append, pop ..), calls, loops. Paste it whole ahead of your own text; what your proof does not reach may be deleted. -/
namespace L2
open PySem PySem.Spec PyProof.Rows

/-- a key: an int or a str -/
abbrev Key := Sum Int Str
def keyIs : Key → Value → Bool
  | .inl k, v => Value.isInt k v
  | .inr x, v => Value.isStrOf x v
def keyH (w : World) : Key → Int
  | .inl k => hashInt k
  | .inr x => hashStr w x
theorem keyIs_shape : ∀ {k : Key} {v : Value}, keyIs k v = true → (∃ i t, k = Sum.inl i ∧ v = Value.int i t) ∨ (∃ x t, k = Sum.inr x ∧ v = Value.str x t)
  | .inl i, v, h => by
    obtain ⟨t, e⟩ := Value.isInt_shape (k := i) (v := v) h
    exact .inl ⟨i, t, rfl, e⟩
  | .inr x, v, h => by
    obtain ⟨t, e⟩ := Value.isStrOf_shape (x := x) (v := v) h
    exact .inr ⟨x, t, rfl, e⟩
theorem keyIs_int (i : Int) (t : Tok) : keyIs (.inl i) (.int i t) = true := by simp [keyIs, Value.isInt]
theorem keyIs_str (x : Str) (t : Tok) : keyIs (.inr x) (.str x t) = true := by simp [keyIs, Value.isStrOf]
theorem key_ll (a b : Int) : decide ((Sum.inl a : Key) = Sum.inl b) = (a == b) := by
  by_cases e : a = b
  · subst e; simp
  · have h : ¬ (Sum.inl a : Key) = Sum.inl b := fun q => e (Sum.inl.inj q)
    rw [decide_eq_false h]
    exact (beq_eq_false_iff_ne.mpr e).symm
theorem key_rr (a b : Str) : decide ((Sum.inr a : Key) = Sum.inr b) = decide (a = b) := by
  by_cases e : a = b
  · subst e; simp
  · have h : ¬ (Sum.inr a : Key) = Sum.inr b := fun q => e (Sum.inr.inj q)
    rw [decide_eq_false h, decide_eq_false e]
theorem key_lr (a : Int) (b : Str) : decide ((Sum.inl a : Key) = Sum.inr b) = false := decide_eq_false (fun q => nomatch q)
theorem key_rl (a : Str) (b : Int) : decide ((Sum.inr a : Key) = Sum.inl b) = false := decide_eq_false (fun q => nomatch q)

def mixKind (prog : Program) (w : World) : PySem.KeyKind prog w Key where
  is := keyIs
  hash := keyH w
  inj := fun v a b ha hb => by
    rcases keyIs_shape ha with ⟨i, t, rfl, rfl⟩ | ⟨x, t, rfl, rfl⟩
    · rcases keyIs_shape hb with ⟨j, u, rfl, e⟩ | ⟨y, u, rfl, e⟩
      · injection e with e1 _; rw [e1]
      · exact nomatch e
    · rcases keyIs_shape hb with ⟨j, u, rfl, e⟩ | ⟨y, u, rfl, e⟩
      · exact nomatch e
      · injection e with e1 _; rw [e1]
  byValue := fun k v h => by
    rcases keyIs_shape h with ⟨i, t, rfl, rfl⟩ | ⟨x, t, rfl, rfl⟩ <;> rfl
  pyHash := fun hv h => by
    rcases keyIs_shape hv with ⟨i, t, rfl, rfl⟩ | ⟨x, t, rfl, rfl⟩
    · exact wpAny_pyHash_int h
    · exact wpAny_pyHash_str h
  eqBool := fun hu hv h => by
    rcases keyIs_shape hu with ⟨i, t, rfl, rfl⟩ | ⟨x, t, rfl, rfl⟩
    · rcases keyIs_shape hv with ⟨j, u, rfl, rfl⟩ | ⟨y, u, rfl, rfl⟩
      · rw [key_ll] at h; exact wpAny_eqBool_int h
      · rw [key_lr] at h; exact SeqAt.EqAt.int_str i t y u _ _ _ _ h
    · rcases keyIs_shape hv with ⟨j, u, rfl, rfl⟩ | ⟨y, u, rfl, rfl⟩
      · rw [key_rl] at h; exact SeqAt.EqAt.str_int x t j u _ _ _ _ h
      · rw [key_rr] at h; exact wpAny_eqBool_str h
  «strs» := fun k x t v h => by
    rcases keyIs_shape h with ⟨i, u, rfl, e⟩ | ⟨y, u, rfl, e⟩
    · exact nomatch e
    · injection e with e1 _
      subst e1
      cases v <;> rfl

theorem mixKind_int (prog : Program) (w : World) (i : Int) (t : Tok) : (mixKind prog w).is (.inl i) (.int i t) = true := keyIs_int i t
theorem mixKind_str (prog : Program) (w : World) (x : Str) (t : Tok) : (mixKind prog w).is (.inr x) (.str x t) = true := keyIs_str x t
end L2

namespace L2
open PySem PySem.Spec PyProof.Rows

/-- a value, without the heap -/
inductive V where
  | non | bl (b : Bool) | int (i : Int) | str (x : Str) | byt (b : Array UInt8) | flt (b : UInt64) | ref (a : Addr) | ty (n : String)
  deriving DecidableEq

def RelV : V → Value → Prop
  | .non, u => u = Value.none
  | .bl b, u => u = Value.bool b
  | .int i, u => ∃ t, u = Value.int i t
  | .str x, u => ∃ t, u = Value.str x t
  | .byt b, u => ∃ t, u = Value.bytes b t
  | .flt b, u => ∃ t, u = Value.float b t
  | .ref a, u => u = Value.ref a
  | .ty n, u => u = Value.type n

abbrev Vals : List V → List Value → Prop := Paired RelV
theorem Vals.length {xs : List V} {us : List Value} (r : Vals xs us) : xs.length = us.length := Paired.length r
theorem Vals.get : ∀ {xs : List V} {us : List Value} {i : Nat} {x : V}, Vals xs us → xs[i]? = some x → ∃ u, us[i]? = some u ∧ RelV x u
  | _, _, _, _, .nil, e => by simp at e
  | _, _, 0, _, .cons r _, e => by simp at e; subst e; exact ⟨_, rfl, r⟩
  | _, _, i + 1, x, .cons _ t, e => by
    obtain ⟨u, h1, h2⟩ := Vals.get (i := i) (x := x) t (by simpa using e)
    exact ⟨u, by simpa using h1, h2⟩
theorem Vals.set {x : V} {u : Value} (r : RelV x u) : ∀ {xs : List V} {us : List Value} (i : Nat), Vals xs us → Vals (xs.set i x) (us.set i u)
  | _, _, _, .nil => .nil
  | _, _, 0, .cons _ t => .cons r t
  | _, _, i + 1, .cons q t => .cons q (Vals.set r i t)
theorem Vals.append : ∀ {xs ys : List V} {us ws : List Value}, Vals xs us → Vals ys ws → Vals (xs ++ ys) (us ++ ws)
  | _, _, _, _, .nil, s => s
  | _, _, _, _, .cons r t, s => .cons r (Vals.append t s)
theorem Vals.take : ∀ {xs : List V} {us : List Value} (n : Nat), Vals xs us → Vals (xs.take n) (us.take n)
  | _, _, 0, _ => .nil
  | _, _, _ + 1, .nil => .nil
  | _, _, n + 1, .cons r t => .cons r (Vals.take n t)
theorem Vals.drop : ∀ {xs : List V} {us : List Value} (n : Nat), Vals xs us → Vals (xs.drop n) (us.drop n)
  | _, _, 0, r => r
  | _, _, _ + 1, .nil => .nil
  | _, _, n + 1, .cons _ t => Vals.drop n t

def RelO : Option V → Option Value → Prop
  | some v, some u => RelV v u
  | none, none => True
  | _, _ => False
def KV {κ : Type} : List (κ × V) → List (κ × Value) → Prop := Paired fun (p : κ × V) (q : κ × Value) => p.1 = q.1 ∧ RelV p.2 q.2

/-- a key of a dict (00_mix): an int or a text -/
def kV : Key → V
  | .inl i => .int i
  | .inr x => .str x

/-- what stands at a tracked address -/
inductive HO where
  /-- a list -/
  | lst (xs : List V)
  /-- a tuple (never changes) -/
  | tup (xs : List V)
  /-- a dict whose keys are ints and texts; one whose keys are tuples of ints and texts (the empty one is both) -/
  | dK (kvs : List (Key × V)) | dT (kvs : List (List Key × V))
  /-- a set of ints: its members, its size -/
  | set (S : Int → Bool) (n : Nat)
  /-- an instance of the class at C, its dict at dx, its attributes -/
  | ins (C dx : Addr) (fs : List (Str × V))
  /-- the dict of the instance at x -/
  | own (x : Addr)
  /-- the dict of an exception -/
  | xd (fs : List (Str × V))
  /-- a bound method, f of x -/
  | met (f x : Addr)
  /-- a range object lo, lo + 1, .. below hi -/
  | rng (lo hi : Int)
  /-- a thing that is known to the object (the script; a dict while a loop walks it): read, never written while it is so -/
  | frz (o : Obj) (u : HO)
  /-- a code object's table -/
  | tbl (ps : Array Value)
  /-- any other thing, by what is true of its one object (a def of one's own: SetO a S n := HO.ext fun h => ..) -/
  | ext (φ : Heap → Prop)

abbrev Hp := Addr → Option HO
def upd (H : Hp) (a : Addr) (o : HO) : Hp := fun b => if b = a then some o else H b
theorem upd_same {H : Hp} {a : Addr} {o : HO} : upd H a o a = some o := by unfold upd; rw [if_pos rfl]
theorem upd_ne {H : Hp} {a b : Addr} {o : HO} (h : b ≠ a) : upd H a o b = H b := by unfold upd; rw [if_neg h]
theorem upd_upd {H : Hp} {a : Addr} {o u : HO} : upd (upd H a o) a u = upd H a u := by
  funext b; unfold upd; split <;> rfl
/-- two objects of different content stand apart -/
theorem ne_of {H : Hp} {a b : Addr} {o u : HO} (h : H a = some o) (h' : H b = some u) (d : o ≠ u) : a ≠ b := by
  intro e; subst e; rw [h] at h'; exact d (Option.some.inj h')
theorem ne_of_none {H : Hp} {a b : Addr} {o : HO} (h : H a = some o) (h' : H b = none) : a ≠ b := by
  intro e; subst e; rw [h] at h'; cases h'

section
variable (P : Program) (w : World)
def ObjOk (H : Hp) (h : Heap) (a : Addr) : HO → Prop
  | .lst xs => xs.length ≤ sizeLine ∧ ∃ (its : List Value) (n : Nat), Vals xs its ∧ h.get? a = some { cls := .type "list", data := .seq its.toArray n }
  | .tup xs => xs.length ≤ sizeLine ∧ ∃ its : List Value, Vals xs its ∧ IsTup h a its.toArray
  | .dK kvs => kvs.length ≤ sizeLine ∧ (a == sysModules) = false ∧ ∃ vs, KV kvs vs ∧ h.DictOf (mixKind P w) a vs
  | .dT kvs => kvs.length ≤ sizeLine ∧ (a == sysModules) = false ∧ ∃ xs : List (List Key × Addr × Value),
      Paired (fun (p : List Key × V) (q : List Key × Addr × Value) => p.1 = q.1 ∧ H q.2.1 = some (.tup (p.1.map kV)) ∧ RelV p.2 q.2.2) kvs xs ∧
      ∃ o es ep, h.get? a = some o ∧ o.ExactDict ∧ o.data = .dict es ep ∧ es.toList = xs.map (entryOfKey (tupleKind (mixKind P w))) ∧ (xs.map (·.1)).Nodup
  | .set S n => h.SetOf (intKind P w) a S n
  | .ins C dx fs => H dx = some (.own a) ∧ fs.length ≤ 1000 ∧ dx ≠ a ∧ h.get? a = some (PySem.W.instObj C dx) ∧
      ∃ mA, h.Ns1 dx mA ∧ (∀ f, RelO (fs.lookup f) (mA f)) ∧ PySem.Within mA (fs.map (·.1))
  | .own _ => ∃ o, h.get? a = some o
  | .xd fs => ∃ mA, h.Ns1 a mA ∧ ∀ f, RelO (fs.lookup f) (mA f)
  | .rng lo hi => ∃ t u v, h.get? a = some { cls := .type "range", data := .fields #[.int lo t, .int hi u, .int 1 v] }
  | .frz o u => h.get? a = some o ∧ ObjOk H h a u
  | .tbl ps => h.get? a = some { cls := .none, data := .fields ps }
  | .met f x => h.get? a = some (PySem.W.methodObj (.ref f) (.ref x))
  | .ext φ => φ h ∧ (∃ o, h.get? a = some o) ∧ ∀ h1 h2 : Heap, φ h1 → (∀ o, h1.get? a = some o → h2.get? a = some o) → φ h2
/-- the abstract heap is held -/
def HOk (H : Hp) (h : Heap) : Prop := ∀ a o, H a = some o → ObjOk P w H h a o
end

section
variable {P : Program} {w : World} {H H' : Hp} {h h' : Heap} {a : Addr} {o : HO}
theorem ObjOk.lt (x : ObjOk P w H h a o) : a < h.objs.size := by
  cases o with
  | lst xs => obtain ⟨_, _, _, _, e⟩ := x; exact Heap.lt_size e
  | tup xs => obtain ⟨_, _, _, p⟩ := x; exact p.lt
  | dK kvs => obtain ⟨_, _, _, _, o, _, _, e, _⟩ := x; exact Heap.lt_size e
  | dT kvs => obtain ⟨_, _, _, _, o, _, _, e, _⟩ := x; exact Heap.lt_size e
  | set S n => obtain ⟨o, _, _, _, e, _⟩ := x; exact Heap.lt_size e
  | ins C dx fs => obtain ⟨_, _, _, e, _⟩ := x; exact Heap.lt_size e
  | own y => obtain ⟨_, e⟩ := x; exact Heap.lt_size e
  | xd fs => obtain ⟨_, ⟨_, _, _, e, _⟩, _⟩ := x; exact Heap.lt_size e
  | rng lo hi => obtain ⟨_, _, _, e⟩ := x; exact Heap.lt_size e
  | frz ob u => obtain ⟨e, _⟩ := x; exact Heap.lt_size e
  | tbl ps => exact Heap.lt_size (show h.get? a = some _ from x)
  | met f y => exact Heap.lt_size (show h.get? a = some _ from x)
  | ext φ => obtain ⟨_, ⟨_, e⟩, _⟩ := x; exact Heap.lt_size e
theorem Paired.mapP {α β : Type} {F G : α → β → Prop} : ∀ {l₁ : List α} {l₂ : List β}, Paired F l₁ l₂ → (∀ a b, F a b → G a b) → Paired G l₁ l₂
  | _, _, .nil, _ => .nil
  | _, _, .cons r t, f => .cons (f _ _ r) (Paired.mapP t f)
/-- what an object's description leans on: its own object, its own dict, the tuples -/
theorem ObjOk.stay (x : ObjOk P w H h a o) (k : ∀ b u, (b = a ∨ H b = some (.own a)) → h.get? b = some u → h'.get? b = some u)
    (ho : ∀ b, H b = some (.own a) → H' b = some (.own a)) (ht : ∀ b xs, H b = some (.tup xs) → H' b = some (.tup xs)) : ObjOk P w H' h' a o := by
  induction o with
  | lst xs => obtain ⟨z, its, n, r, e⟩ := x; exact ⟨z, its, n, r, k _ _ (.inl rfl) e⟩
  | tup xs => obtain ⟨z, its, r, ob, e, c⟩ := x; exact ⟨z, its, r, ob, k _ _ (.inl rfl) e, c⟩
  | dK kvs => obtain ⟨z, y, vs, r, ob, es, ep, e, c⟩ := x; exact ⟨z, y, vs, r, ob, es, ep, k _ _ (.inl rfl) e, c⟩
  | dT kvs =>
    obtain ⟨z, y, xs, r, ob, es, ep, e, c⟩ := x
    exact ⟨z, y, xs, Paired.mapP r fun p q z => ⟨z.1, ht _ _ z.2.1, z.2.2⟩, ob, es, ep, k _ _ (.inl rfl) e, c⟩
  | set S n => obtain ⟨ob, es, ep, t, e, c⟩ := x; exact ⟨ob, es, ep, t, k _ _ (.inl rfl) e, c⟩
  | ins C dx fs =>
    obtain ⟨d, z, ne, e, mA, ⟨od, es, ep, e2, c⟩, r⟩ := x
    exact ⟨ho _ d, z, ne, k _ _ (.inl rfl) e, mA, ⟨od, es, ep, k _ _ (.inr d) e2, c⟩, r⟩
  | own y => obtain ⟨ob, e⟩ := x; exact ⟨ob, k _ _ (.inl rfl) e⟩
  | xd fs => obtain ⟨mA, ⟨od, es, ep, e, c⟩, r⟩ := x; exact ⟨mA, ⟨od, es, ep, k _ _ (.inl rfl) e, c⟩, r⟩
  | rng lo hi => obtain ⟨t, u, v, e⟩ := x; exact ⟨t, u, v, k _ _ (.inl rfl) e⟩
  | frz ob u ih => obtain ⟨e, q⟩ := x; exact ⟨k _ _ (.inl rfl) e, ih q⟩
  | tbl ps =>
    have e : h.get? a = some { cls := .none, data := .fields ps } := x
    show h'.get? a = some { cls := .none, data := .fields ps }
    exact k a _ (.inl rfl) e
  | met f y =>
    have e : h.get? a = some (PySem.W.methodObj (.ref f) (.ref y)) := x
    show h'.get? a = some (PySem.W.methodObj (.ref f) (.ref y))
    exact k a _ (.inl rfl) e
  | ext φ => obtain ⟨p, ⟨o, e⟩, st⟩ := x; exact ⟨st _ _ p fun o q => k _ _ (.inl rfl) q, ⟨o, k _ _ (.inl rfl) e⟩, st⟩
theorem HOk.lt (x : HOk P w H h) (e : H a = some o) : a < h.objs.size := (x a o e).lt
theorem HOk.fresh (x : HOk P w H h) (e : h.objs.size ≤ a) : H a = none := by
  cases q : H a with
  | none => rfl
  | some u => exact absurd (Nat.lt_of_lt_of_le (x.lt q) e) (Nat.lt_irrefl _)
/-- every object of the heap is kept -/
theorem HOk.kept (x : HOk P w H h) (k : ∀ b u, h.get? b = some u → h'.get? b = some u) : HOk P w H h' := fun a o e =>
  (x a o e).stay (fun b u _ q => k b u q) (fun _ q => q) fun _ _ q => q
/-- a new object is laid and tracked -/
theorem HOk.laid (x : HOk P w H h) (k : ∀ b u, h.get? b = some u → h'.get? b = some u) (hp : h.objs.size ≤ a) (new : ObjOk P w (upd H a o) h' a o) : HOk P w (upd H a o) h' := fun b u e => by
  have hn := x.fresh hp
  by_cases hb : b = a
  · subst hb; rw [upd_same] at e; cases e; exact new
  · rw [upd_ne hb] at e
    exact (x b u e).stay (fun c v _ q => k c v q) (fun c q => by rw [upd_ne (ne_of_none q hn)]; exact q) fun c xs q => by rw [upd_ne (ne_of_none q hn)]; exact q
end

/-- what may be read as u: it is u, or a known u -/
def Rd (H : Hp) (a : Addr) (u : HO) : Prop := H a = some u ∨ ∃ o, H a = some (.frz o u)
theorem Rd.ok {P : Program} {w : World} {H : Hp} {h : Heap} {a : Addr} {u : HO} (r : Rd H a u) (x : HOk P w H h) : ObjOk P w H h a u := by
  rcases r with r | ⟨o, r⟩
  · exact x a u r
  · obtain ⟨_, q⟩ := x a _ r
    exact q
/-- what may be written -/
def Mut : Option HO → Prop
  | some (.lst _) => True
  | some (.dK _) => True
  | some (.dT _) => True
  | some (.set _ _) => True
  | some (.ins _ _ _) => True
  | some (.ext _) => True
  | _ => False
section
variable {P : Program} {w : World} {H : Hp} {h h' : Heap} {x e : Addr} {o' : HO}
/-- the object at e is changed: x itself, or the dict of the instance x -/
theorem HOk.write (ok : HOk P w H h) (mu : Mut (H x)) (he : e = x ∨ H e = some (.own x)) (k : ∀ b u, b ≠ e → h.get? b = some u → h'.get? b = some u) (heo : ∃ u, h'.get? e = some u)
    (new : ObjOk P w (upd H x o') h' x o') : HOk P w (upd H x o') h' := fun b u q => by
  have nown : ∀ c y, H c = some (.own y) → c ≠ x := fun c y r z => by subst z; rw [r] at mu; exact mu
  have ntup : ∀ c xs, H c = some (.tup xs) → c ≠ x := fun c xs r z => by subst z; rw [r] at mu; exact mu
  by_cases hb : b = x
  · subst hb; rw [upd_same] at q; cases q; exact new
  · rw [upd_ne hb] at q
    by_cases hbe : b = e
    · have q' : H b = some (.own x) := by
        rcases he with z | z
        · exact absurd (hbe.trans z) hb
        · rw [hbe]; exact z
      rw [q] at q'; cases q'
      obtain ⟨v, hv⟩ := heo
      exact ⟨v, by rw [hbe]; exact hv⟩
    · refine (ok b u q).stay (fun c v hc r => k c v ?_ r) (fun c r => by rw [upd_ne (nown c b r)]; exact r) fun c xs r => by rw [upd_ne (ntup c xs r)]; exact r
      rcases hc with rfl | hc
      · exact hbe
      · rintro rfl
        rcases he with z | z
        · exact nown c b hc z
        · rw [hc] at z; cases z; exact hb rfl
end

/-! ### kept unless tracked; of the frames at fs (the callers') the slots may change (an exception that passes writes there); of the records at ex (iterators) nothing is said -/
structure Un (fs ex : List Addr) (H H' : Hp) (h h' : Heap) : Prop where
  keep : ∀ b o, h.get? b = some o → H b = none → b ∉ fs → b ∉ ex → h'.get? b = some o
  slot : ∀ b o, h.get? b = some o → H b = none → b ∈ fs → b ∉ ex → ∃ sl, h'.get? b = some { o with slots := sl }
  free : ∀ b o, h.get? b = some o → H b = none → b ∉ ex → H' b = none
  there : ∀ b o, h.get? b = some o → b ∉ ex → ∃ o', h'.get? b = some o'
  tups : ∀ b xs, H b = some (.tup xs) → H' b = some (.tup xs)
  frzs : ∀ b o u, H b = some (.frz o u) → H' b = some (.frz o u)
  tbls : ∀ b ps, H b = some (.tbl ps) → ∃ more, H' b = some (.tbl (ps ++ more))
section
variable {fs fs' ex ex' : List Addr} {H H1 H2 : Hp} {h h1 h2 h' : Heap} {a x e : Addr} {o : HO}
theorem Un.any (u : Un fs ex H H1 h h1) {b : Addr} {ob : Obj} (q : h.get? b = some ob) (n : H b = none) (hx : b ∉ ex) : ∃ sl, h1.get? b = some { ob with slots := sl } := by
  by_cases hb : b ∈ fs
  · exact u.slot b ob q n hb hx
  · exact ⟨ob.slots, u.keep b ob q n hb hx⟩
theorem Un.kept (k : ∀ b u, h.get? b = some u → h'.get? b = some u) : Un fs ex H H h h' :=
  ⟨fun b ob q _ _ _ => k b ob q, fun b ob q _ _ _ => ⟨ob.slots, k b ob q⟩, fun _ _ _ n _ => n, fun b ob q _ => ⟨ob, k b ob q⟩, fun _ _ q => q, fun _ _ _ q => q, fun _ ps q => ⟨#[], by rw [q]; simp⟩⟩
theorem Un.refl : Un fs ex H H h h := Un.kept fun _ _ q => q
theorem Un.laid (k : ∀ b u, h.get? b = some u → h'.get? b = some u) (hp : h.objs.size ≤ a) (hn : H a = none) : Un fs ex H (upd H a o) h h' where
  keep := fun b u q _ _ _ => k b u q
  slot := fun b u q _ _ _ => ⟨u.slots, k b u q⟩
  free := fun b u q n _ => by rw [upd_ne (Nat.ne_of_lt (Nat.lt_of_lt_of_le (Heap.lt_size q) hp))]; exact n
  there := fun b u q _ => ⟨u, k b u q⟩
  tups := fun b xs q => by rw [upd_ne (ne_of_none q hn)]; exact q
  frzs := fun b u xs q => by rw [upd_ne (ne_of_none q hn)]; exact q
  tbls := fun b ps q => ⟨#[], by rw [upd_ne (ne_of_none q hn), q]; simp⟩
theorem Un.write (mu : Mut (H x)) (he : e = x ∨ H e = some (.own x)) (k : ∀ b u, b ≠ e → h.get? b = some u → h'.get? b = some u) (heo : ∃ u, h'.get? e = some u) : Un fs ex H (upd H x o) h h' := by
  have hx : ∀ b, H b = none → b ≠ x := fun b n z => by subst z; rw [n] at mu; exact mu
  have hb : ∀ b, H b = none → b ≠ e := fun b n z => by
    subst z
    rcases he with r | r
    · exact hx b n r
    · rw [n] at r; cases r
  have hm : ∀ b u, H b = some u → ¬ Mut (some u) → b ≠ x := fun b u q nm z => by subst z; rw [q] at mu; exact nm mu
  refine ⟨fun b u q n _ _ => k b u (hb b n) q, fun b u q n _ _ => ⟨u.slots, k b u (hb b n) q⟩, fun b u q n _ => by rw [upd_ne (hx b n)]; exact n, fun b u q _ => ?_,
    fun b xs q => by rw [upd_ne (hm b _ q fun z => z)]; exact q, fun b u xs q => by rw [upd_ne (hm b _ q fun z => z)]; exact q, fun b ps q => ⟨#[], by rw [upd_ne (hm b _ q fun z => z), q]; simp⟩⟩
  by_cases hbe : b = e
  · subst hbe; exact heo
  · exact ⟨u, k b u hbe q⟩
end

/-! ### the heap without what is tracked -/
def trk (h : Heap) (H : Hp) : List Addr := (List.range h.objs.size).filter fun a => (H a).isSome
def hidT (h : Heap) (H : Hp) : Heap := PySem.W.hideAll h (trk h H)
theorem hidT_size (h : Heap) (H : Hp) : (hidT h H).objs.size = h.objs.size := PySem.W.hideAll_size _ _
theorem hidT_get {h : Heap} {H : Hp} {b : Addr} {o : Obj} (e : h.get? b = some o) (n : H b = none) : (hidT h H).get? b = some o :=
  PySem.W.hideAll_get _ e fun hm => by
    have q : (H b).isSome = true := (List.mem_filter.mp hm).2
    rw [n] at q; simp at q
theorem of_hidT {h : Heap} {H : Hp} {b : Addr} {o : Obj} (e : (hidT h H).get? b = some o) : h.get? b = some o ∧ H b = none := by
  have e' : h.get? b = some o := PySem.W.of_hideAll (trk h H) e
  refine ⟨e', ?_⟩
  cases q : H b with
  | none => rfl
  | some x =>
    have hm : b ∈ trk h H := List.mem_filter.mpr ⟨List.mem_range.mpr (Heap.lt_size e'), by simp [q]⟩
    have z : (hidT h H).get? b = none := PySem.W.hideAll_none (trk h H) hm
    rw [z] at e; cases e

/-! ### OpenK's ledger, filled with every new object but one -/
def allNews (g h : Heap) (L : Addr) : List (Addr × Obj) := (List.range h.objs.size).filterMap fun a => if a = L ∨ (g.get? a).isSome = true then none else (h.get? a).map fun o => (a, o)
def rest (g h : Heap) (L d : Addr) : List (Addr × Obj) := (allNews g h L).filter fun p => decide (p.1 ≠ d)
end L2

namespace L2
open PySem PySem.Spec PyProof.Rows

/-- the module's facts, over the base: the heap at the law's entry without what is tracked there -/
structure Mod (K : PySem.W.Frag) (mg : Str → Option Value) (base : Heap) : Prop where
  kin : K.In base
  glob : base.Ns mainGlobals mg
  blt : ∃ mb, base.Ns builtinsNs mb ∧ ∀ x : Str, x ≠ "__name__" → mb x = bootBuiltins x
  nolimit : base.NoLimit

/-- the context: a def's body (or a comprehension's block) running. base: fixed through the whole law; s₀, H₀: the entry; outer: the frames whose slots others may change (a def's callers); stack: all frames that run;
   ex: iterators that were made ahead of the entry and are walked here (a comprehension's); fn: the names whose cells were made at the entry (a def: all; a comprehension's block: its own); calm: not within an except suite; pn: pins that every state bears; xe: what is wanted of an exception that leaves the code -/
structure Cx where
  prog : Program
  w : World
  K : PySem.W.Frag
  mg : Str → Option Value
  base : Heap
  A : Around
  N : List Str
  s₀ : Shared
  H₀ : Hp
  env : Env
  outer : List Env
  stack : List Env
  ex : List Addr
  fn : Str → Bool
  calm : Bool
  pn : List (Addr × Obj)
  xe : Value → Shared → Prop
/-- the callers' frames -/
def frs (l : List Env) : List Addr := l.filterMap (·.frame)
abbrev Cx.fs (X : Cx) : List Addr := frs X.outer

def Vis (sc : Scope) (x : Str) : Prop := sc.names.lookup x = some .local ∨ sc.names.lookup x = some .cell ∨ sc.names.lookup x = some .free
def Loc (sc : Scope) (x : Str) : Prop := sc.names.lookup x = some .local ∨ sc.names.lookup x = some .cell
def Look (env : Env) (h : Heap) (m : Str → Option Value) (x : Str) (u : Value) : Prop :=
  (env.kindOf x = some .local ∧ m x = some u) ∨ ((env.kindOf x = some .cell ∨ env.kindOf x = some .free) ∧ ∃ c, env.cells.lookup x = some c ∧ h.IsCell c (some u))

structure Cx.Ok (X : Cx) : Prop where
  mod : Mod X.K X.mg X.base
  kind : X.env.scope.kind = .function
  glob : X.env.globals = mainGlobals
  blt : X.env.builtins = builtinsNs
  above : X.s₀.heap.objs.size ≤ X.env.locals
  inj : ∀ x y c, X.env.cells.lookup x = some c → X.env.cells.lookup y = some c → x = y
  has : ∀ x, (X.env.kindOf x = some .cell ∨ X.env.kindOf x = some .free) → ∃ c, X.env.cells.lookup x = some c
  cab : ∀ x c, X.fn x = true → X.env.cells.lookup x = some c → X.s₀.heap.objs.size ≤ c
  hd : X.calm = true → X.A.handled = none
  frames : X.A.frames = some X.stack
  stk : X.stack = X.outer ∨ (X.stack = X.env :: X.outer ∧ X.env.frame = some X.env.locals)
  exf : ∀ b ∈ X.ex, b ≠ X.env.locals ∧ ∀ x c, X.env.cells.lookup x = some c → c ≠ b
  bs : ∀ b o, X.base.get? b = some o → X.s₀.heap.get? b = some o ∧ X.H₀ b = none
  bsz : X.base.objs.size ≤ X.s₀.heap.objs.size
  noex : ∀ b o, X.base.get? b = some o → b ∉ X.ex
  exfs : ∀ b ∈ X.ex, b ∉ X.fs
  funs : X.s₀.heap.FunFrames X.base X.outer
  frf : ∀ b ∈ X.fs, X.H₀ b = none

structure Inv (X : Cx) (pins : List (Addr × Obj)) (σ : List (Option V)) (H : Hp) (s : Shared) : Prop where
  ok : X.Ok
  os : s.os = X.s₀.os
  bare : AllBare s.gens
  base : Un X.fs X.ex X.H₀ H X.s₀.heap s.heap
  loc : ∃ m, s.heap.Ns X.env.locals m ∧ ∀ (i : Nat) (x : Str) (v : V), X.N[i]? = some x → σ[i]? = some (some v) → Vis X.env.scope x → ∃ u, RelV v u ∧ Look X.env s.heap m x u
  cell : ∀ x c, X.env.cells.lookup x = some c → ∃ v, s.heap.IsCell c v
  free : H X.env.locals = none
  freeC : ∀ x c, X.env.cells.lookup x = some c → H c = none
  pin : ∀ p ∈ X.pn ++ pins, s.heap.get? p.1 = some p.2 ∧ H p.1 = none ∧ p.1 ≠ X.env.locals ∧ p.1 ∉ X.fs ∧ ∀ v, p.2.data ≠ .cell v
  hok : HOk X.prog X.w H s.heap
  len : σ.length = X.N.length

section
variable {X : Cx} {pins : List (Addr × Obj)} {σ : List (Option V)} {H H' : Hp} {s : Shared} {h' : Heap}

theorem Cx.Ok.nofr (ok : X.Ok) {b : Addr} {o : Obj} (e : X.base.get? b = some o) : b ∉ X.fs := fun hb => by
  have := (ok.funs.mem hb).1
  rw [e] at this; cases this
theorem Inv.bs (I : Inv X pins σ H s) : ∀ b o, X.base.get? b = some o → s.heap.get? b = some o ∧ H b = none := fun b o e =>
  ⟨I.base.keep b o (I.ok.bs b o e).1 (I.ok.bs b o e).2 (I.ok.nofr e) (I.ok.noex b o e), I.base.free b o (I.ok.bs b o e).1 (I.ok.bs b o e).2 (I.ok.noex b o e)⟩
theorem Inv.bk (I : Inv X pins σ H s) : ∀ b o, X.base.get? b = some o → s.heap.get? b = some o := fun b o e => (I.bs b o e).1
theorem Inv.mod (I : Inv X pins σ H s) : Mod X.K X.mg X.base := I.ok.mod
theorem Inv.kIn (I : Inv X pins σ H s) : X.K.In s.heap := I.ok.mod.kin.keeps I.bk
theorem Inv.lt (I : Inv X pins σ H s) : X.env.locals < s.heap.objs.size := let ⟨_, hn, _⟩ := I.loc; hn.lt
theorem Inv.sz (I : Inv X pins σ H s) : X.s₀.heap.objs.size ≤ s.heap.objs.size := Nat.le_trans I.ok.above (Nat.le_of_lt I.lt)
theorem Inv.nofs (I : Inv X pins σ H s) {a : Addr} (h : s.heap.objs.size ≤ a) : a ∉ X.fs := fun hb => by
  obtain ⟨_, o, ho, _⟩ := I.ok.funs.mem hb
  exact absurd (Nat.lt_of_lt_of_le (Heap.lt_size ho) (Nat.le_trans I.sz h)) (Nat.lt_irrefl _)
theorem Inv.cne (I : Inv X pins σ H s) : ∀ x c, X.env.cells.lookup x = some c → c ≠ X.env.locals := fun x c e z => by
  obtain ⟨v, o, ho, hd⟩ := I.cell x c e
  obtain ⟨m, ⟨o', es, ep, ho', hd', _⟩, _⟩ := I.loc
  rw [z, ho'] at ho; cases ho; rw [hd'] at hd; cases hd
theorem Inv.funs (I : Inv X pins σ H s) : s.heap.FunFrames X.base X.outer := by
  have all : ∀ (l : List Env), (∀ b ∈ frs l, b ∈ X.fs) → X.s₀.heap.FunFrames X.base l → s.heap.FunFrames X.base l := by
    intro l
    induction l with
    | nil => intro _ _; trivial
    | cons env r ih =>
      intro hs hl
      obtain ⟨hk, ⟨L, o, hf, hn, ho, hd⟩, hr⟩ := hl
      have hL : L ∈ X.fs := hs L (by unfold frs; rw [List.filterMap_cons, hf]; exact List.mem_cons_self)
      obtain ⟨sl, e⟩ := I.base.slot L o ho (I.ok.frf L hL) hL fun z => I.ok.exfs L z hL
      exact ⟨hk, ⟨L, _, hf, hn, e, hd⟩, ih (fun b hb => hs b (by unfold frs; rw [List.filterMap_cons, hf]; exact List.mem_cons_of_mem _ hb)) hr⟩
  exact all X.outer (fun _ hb => hb) I.ok.funs

/-- the frames that run, for a call -/
theorem Inv.stack (I : Inv X pins σ H s) : s.heap.FunFrames X.base X.stack := by
  rcases I.ok.stk with e | ⟨e, hf⟩
  · rw [e]; exact I.funs
  · rw [e]
    obtain ⟨m, hn, _⟩ := I.loc
    refine .cons (by rw [I.ok.kind]; decide) hf hn ?_ I.funs
    exact Heap.get?_none_of_le (Nat.le_trans I.ok.bsz I.ok.above)
theorem Inv.stkSub (I : Inv X pins σ H s) : ∀ b ∈ frs X.stack, b ∈ X.env.locals :: X.fs := fun b hb => by
  rcases I.ok.stk with e | ⟨e, hf⟩
  · rw [e] at hb; exact List.mem_cons_of_mem _ hb
  · rw [e] at hb
    unfold frs at hb
    rw [List.filterMap_cons, hf] at hb
    exact hb
theorem Inv.stkFree (I : Inv X pins σ H s) : ∀ b ∈ frs X.stack, H b = none := fun b hb => by
  rcases List.mem_cons.mp (I.stkSub b hb) with e | hb
  · rw [e]; exact I.free
  · obtain ⟨_, o, ho, _⟩ := I.ok.funs.mem hb
    exact I.base.free b o ho (I.ok.frf b hb) fun z => I.ok.exfs b z hb

/-- THE STEP: the untracked objects but the frame and the records at ch are kept (the callers' frames up to slots), the frame's map is kept, the new abstract heap is held -/
theorem Inv.step {g' : Array GenState} {t' : Nat} {d' : Drawn} {ch : List Addr} (I : Inv X pins σ H s)
    (hch : ∀ b ∈ ch, (b ∈ X.ex ∨ X.s₀.heap.objs.size ≤ b) ∧ b ≠ X.env.locals ∧ (∀ x c, X.env.cells.lookup x = some c → c ≠ b) ∧ ∀ p ∈ X.pn ++ pins, p.1 ≠ b)
    (keep : ∀ b o, b ≠ X.env.locals → b ∉ X.fs → b ∉ ch → s.heap.get? b = some o → H b = none → h'.get? b = some o)
    (slot : ∀ b o, b ≠ X.env.locals → b ∈ X.fs → b ∉ ch → s.heap.get? b = some o → H b = none → ∃ sl, h'.get? b = some { o with slots := sl }) (free : ∀ b o, b ∉ ch → s.heap.get? b = some o → H b = none → H' b = none)
    (there : ∀ b o, b ∉ ch → s.heap.get? b = some o → ∃ o', h'.get? b = some o')
    (tups : ∀ b xs, H b = some (.tup xs) → H' b = some (.tup xs)) (frzs : ∀ b o u, H b = some (.frz o u) → H' b = some (.frz o u)) (tbls : ∀ b ps, H b = some (.tbl ps) → ∃ more, H' b = some (.tbl (ps ++ more)))
    (ns : ∀ m, s.heap.Ns X.env.locals m → h'.Ns X.env.locals m) (hok : HOk X.prog X.w H' h') (hg : AllBare g') :
    Inv X pins σ H' { s with heap := h', gens := g', drawn := d', toks := t' } := by
  have neL : ∀ b o, X.s₀.heap.get? b = some o → b ≠ X.env.locals := fun b o e => Nat.ne_of_lt (Nat.lt_of_lt_of_le (Heap.lt_size e) I.ok.above)
  have neC : ∀ b o, X.s₀.heap.get? b = some o → b ∉ X.ex → b ∉ ch := fun b o e hx hb => by
    rcases (hch b hb).1 with z | z
    · exact hx z
    · exact absurd (Nat.lt_of_lt_of_le (Heap.lt_size e) z) (Nat.lt_irrefl _)
  have cellK : ∀ x c, X.env.cells.lookup x = some c → ∀ v, s.heap.IsCell c v → h'.IsCell c v := fun x c e v ⟨o, ho, hd⟩ => by
    have nch : c ∉ ch := fun z => (hch c z).2.2.1 x c e rfl
    by_cases hc : c ∈ X.fs
    · obtain ⟨sl, q⟩ := slot c o (I.cne x c e) hc nch ho (I.freeC x c e)
      exact ⟨_, q, hd⟩
    · exact ⟨o, keep c o (I.cne x c e) hc nch ho (I.freeC x c e), hd⟩
  refine ⟨I.ok, I.os, hg, ⟨fun b o e n hb hx => ?_, fun b o e n hb hx => ?_, fun b o e n hx => ?_, fun b o e hx => ?_, fun b xs e => tups b xs (I.base.tups b xs e), fun b o xs e => frzs b o xs (I.base.frzs b o xs e), fun b ps e => ?_⟩, ?_, fun x c e => ?_, ?_, fun x c e => ?_, fun p hp => ?_, hok, I.len⟩
  · exact keep b o (neL b o e) hb (neC b o e hx) (I.base.keep b o e n hb hx) (I.base.free b o e n hx)
  · obtain ⟨sl, e1⟩ := I.base.slot b o e n hb hx
    obtain ⟨sl', e2⟩ := slot b _ (neL b o e) hb (neC b o e hx) e1 (I.base.free b o e n hx)
    exact ⟨sl', e2⟩
  · obtain ⟨o', e1⟩ := I.base.there b o e hx
    exact free b o' (neC b o e hx) e1 (I.base.free b o e n hx)
  · obtain ⟨o', e1⟩ := I.base.there b o e hx
    exact there b o' (neC b o e hx) e1
  · obtain ⟨m1, e1⟩ := I.base.tbls b ps e
    obtain ⟨m2, e2⟩ := tbls b _ e1
    exact ⟨m1 ++ m2, by rw [e2, Array.append_assoc]⟩
  · obtain ⟨m, hn, hl⟩ := I.loc
    refine ⟨m, ns m hn, fun i x v e1 e2 e3 => ?_⟩
    obtain ⟨u, r, l⟩ := hl i x v e1 e2 e3
    refine ⟨u, r, ?_⟩
    rcases l with l | ⟨k, c, e, z⟩
    · exact .inl l
    · exact .inr ⟨k, c, e, cellK x c e _ z⟩
  · obtain ⟨v, z⟩ := I.cell x c e
    exact ⟨v, cellK x c e v z⟩
  · obtain ⟨m, ⟨o, _, _, ho, _⟩, _⟩ := I.loc
    exact free _ o (fun z => (hch _ z).2.1 rfl) ho I.free
  · obtain ⟨v, o, ho, hd⟩ := I.cell x c e
    exact free c o (fun z => (hch c z).2.2.1 x c e rfl) ho (I.freeC x c e)
  · obtain ⟨e, n, ne, nf, d⟩ := I.pin p hp
    have nch : p.1 ∉ ch := fun z => (hch p.1 z).2.2.2 p hp rfl
    exact ⟨keep p.1 p.2 ne nf nch e n, free p.1 p.2 nch e n, ne, nf, d⟩
/-- .. where the frame's own object is kept too -/
theorem Inv.un {t' : Nat} (I : Inv X pins σ H s) (u : Un X.fs [] H H' s.heap h') (hok : HOk X.prog X.w H' h') : Inv X pins σ H' { s with heap := h', toks := t' } := by
  obtain ⟨m, ⟨o, es, ep, ho, r⟩, _⟩ := id I.loc
  obtain ⟨sl, hL⟩ := u.any ho I.free (by simp)
  exact I.step (g' := s.gens) (d' := s.drawn) (ch := []) (fun _ z => nomatch z) (fun b o _ hb _ e n => u.keep b o e n hb (by simp)) (fun b o _ hb _ e n => u.slot b o e n hb (by simp)) (fun b o _ e n => u.free b o e n (by simp)) (fun b o _ e => u.there b o e (by simp)) u.tups u.frzs u.tbls (fun m' hm => by
    obtain ⟨o', es', ep', ho', r'⟩ := hm
    rw [ho] at ho'; cases ho'
    exact ⟨_, es', ep', hL, r'⟩) hok I.bare
/-- behind a call (or a comprehension's block): the slots of this frame may have changed too, the records at ch may have turned -/
theorem Inv.call {g' : Array GenState} {t' : Nat} {d' : Drawn} {ch : List Addr} (I : Inv X pins σ H s) (u : Un (frs X.stack) ch H H' s.heap h') (hok : HOk X.prog X.w H' h') (hg : AllBare g')
    (hch : ∀ b ∈ ch, (b ∈ X.ex ∨ X.s₀.heap.objs.size ≤ b) ∧ b ≠ X.env.locals ∧ (∀ x c, X.env.cells.lookup x = some c → c ≠ b) ∧ ∀ p ∈ X.pn ++ pins, p.1 ≠ b) :
    Inv X pins σ H' { s with heap := h', gens := g', drawn := d', toks := t' } := by
  obtain ⟨m, ⟨o, es, ep, ho, r⟩, _⟩ := id I.loc
  obtain ⟨sl, hL⟩ := u.any ho I.free fun z => (hch _ z).2.1 rfl
  exact I.step (ch := ch) hch (fun b o hL hb hc e n => u.keep b o e n (fun z => (List.mem_cons.mp (I.stkSub b z)).elim hL hb) hc) (fun b o _ _ hc e n => u.any e n hc) (fun b o hc e n => u.free b o e n hc) (fun b o hc e => u.there b o e hc) u.tups u.frzs u.tbls (fun m' hm => by
    obtain ⟨o', es', ep', ho', r'⟩ := hm
    rw [ho] at ho'; cases ho'
    exact ⟨_, es', ep', hL, r'⟩) hok hg
/-- an untracked record of ours (an iterator) has turned -/
theorem Inv.turned {t' : Nat} {it : Addr} (I : Inv X pins σ H s) (k : ∀ b o, b ≠ it → s.heap.get? b = some o → h'.get? b = some o) (hn : H it = none) (hL : it ≠ X.env.locals)
    (h1 : it ∈ X.ex ∨ X.s₀.heap.objs.size ≤ it) (h2 : ∀ x c, X.env.cells.lookup x = some c → c ≠ it) (h3 : ∀ p ∈ X.pn ++ pins, p.1 ≠ it) : Inv X pins σ H { s with heap := h', toks := t' } := by
  have nit : ∀ b u, H b = some u → b ≠ it := fun b u e z => by rw [z, hn] at e; cases e
  refine I.step (g' := s.gens) (d' := s.drawn) (ch := [it]) (fun b hb => ?_) (fun b o _ _ hc e _ => k b o (fun z => hc (by simp [z])) e) (fun b o _ _ hc e _ => ⟨o.slots, k b o (fun z => hc (by simp [z])) e⟩) (fun _ _ _ _ n => n)
    (fun b o hc e => ⟨o, k b o (fun z => hc (by simp [z])) e⟩) (fun _ _ e => e) (fun _ _ _ e => e) (fun b ps e => ⟨#[], by rw [e]; simp⟩) (fun m hm => ?_) (fun b u e => ?_) I.bare
  · have e : b = it := by simpa using hb
    subst e
    exact ⟨h1, hL, h2, h3⟩
  · obtain ⟨o, es, ep, ho, r⟩ := hm
    exact ⟨o, es, ep, k _ o (Ne.symm hL) ho, r⟩
  · refine (I.hok b u e).stay (fun c v hc q => k c v ?_ q) (fun _ q => q) fun _ _ q => q
    rcases hc with z | z
    · rw [z]; exact nit b u e
    · exact nit c _ z
theorem Inv.tok (I : Inv X pins σ H s) (t : Nat) : Inv X pins σ H { s with toks := t } := I.un (h' := s.heap) (t' := t) Un.refl I.hok
/-- all objects kept -/
theorem Inv.kept {t' : Nat} (I : Inv X pins σ H s) (k : ∀ b u, s.heap.get? b = some u → h'.get? b = some u) : Inv X pins σ H { s with heap := h', toks := t' } := I.un (Un.kept k) (I.hok.kept k)
/-- a new object laid and tracked -/
theorem Inv.laid {a : Addr} {o : HO} {t' : Nat} (I : Inv X pins σ H s) (k : ∀ b u, s.heap.get? b = some u → h'.get? b = some u) (hp : s.heap.objs.size ≤ a) (new : ObjOk X.prog X.w (upd H a o) h' a o) :
    Inv X pins σ (upd H a o) { s with heap := h', toks := t' } := I.un (Un.laid k hp (I.hok.fresh hp)) (I.hok.laid k hp new)
/-- an object written -/
theorem Inv.write {x e : Addr} {o : HO} {t' : Nat} (I : Inv X pins σ H s) (mu : Mut (H x)) (he : e = x ∨ H e = some (.own x)) (k : ∀ b u, b ≠ e → s.heap.get? b = some u → h'.get? b = some u) (heo : ∃ u, h'.get? e = some u)
    (new : ObjOk X.prog X.w (upd H x o) h' x o) : Inv X pins σ (upd H x o) { s with heap := h', toks := t' } := I.un (Un.write mu he k heo) (I.hok.write mu he k heo new)
/-- forgetting slots, pins -/
theorem Inv.weak {σ' : List (Option V)} (I : Inv X pins σ H s) (hl : σ'.length = σ.length) (w : ∀ (i : Nat) v, σ'[i]? = some (some v) → σ[i]? = some (some v)) : Inv X pins σ' H s :=
  ⟨I.ok, I.os, I.bare, I.base, let ⟨m, hn, hl'⟩ := I.loc; ⟨m, hn, fun i x v e1 e2 e3 => hl' i x v e1 (w i v e2) e3⟩, I.cell, I.free, I.freeC, I.pin, I.hok, hl.trans I.len⟩
theorem Inv.pins_of {pins' : List (Addr × Obj)} (I : Inv X pins σ H s) (h : ∀ p ∈ pins', s.heap.get? p.1 = some p.2 ∧ H p.1 = none ∧ p.1 ≠ X.env.locals ∧ p.1 ∉ X.fs ∧ ∀ v, p.2.data ≠ .cell v) : Inv X pins' σ H s :=
  ⟨I.ok, I.os, I.bare, I.base, I.loc, I.cell, I.free, I.freeC, fun p hp => (List.mem_append.mp hp).elim (fun z => I.pin p (List.mem_append_left _ z)) (h p), I.hok, I.len⟩

theorem nodup_ix {N : List Str} (hN : N.Nodup) {i j : Nat} {x : Str} (a : N[i]? = some x) (b : N[j]? = some x) : i = j := by
  obtain ⟨h1, e1⟩ := List.getElem?_eq_some_iff.mp a
  obtain ⟨h2, e2⟩ := List.getElem?_eq_some_iff.mp b
  exact (List.getElem_inj hN).mp (e1.trans e2.symm)

/-- a name is stored; what changed -/
theorem store_ok2 {M : Model} {A : Around} {E : Value → Shared → Prop} {i : Nat} {x : Str} {v : V} {u : Value} {Q : Unit → Shared → Prop} (I : Inv X pins σ H s) (hN : X.N.Nodup) (hi : X.N[i]? = some x) (hx : Loc X.env.scope x) (r : RelV v u)
    (h : ∀ s', Inv X pins (σ.set i (some v)) H s' → (∃ a, Heap.SameBut a s.heap s'.heap ∧ (a = X.env.locals ∨ X.env.cells.lookup x = some a)) → Q () s') (hf : X.fn x = true ∨ X.env.scope.names.lookup x = some .local := by first | exact .inl rfl | exact .inr rfl | assumption) : wpAny M A (storeName X.env x u) Q E s := by
  obtain ⟨m, hn, hl⟩ := id I.loc
  have hcls : (X.env.scope.kind == .class || (X.env.scope.kind == .module && X.env.locals != X.env.globals)) = false := by rw [I.ok.kind]; rfl
  have hiσ : i < σ.length := by rw [I.len]; exact (List.getElem?_eq_some_iff.mp hi).1
  have cne := I.cne
  have tracked : ∀ {a : Addr} {h' : Heap}, (∃ o, s.heap.get? a = some o ∧ H a = none) → Heap.SameBut a s.heap h' → HOk X.prog X.w H h' := fun {a h'} ha hs b ob e => by
    obtain ⟨_, _, hfree⟩ := ha
    refine (I.hok b ob e).stay (fun c w' hc q => (hs.2 c ?_).trans q) (fun _ q => q) fun _ _ q => q
    rintro rfl
    rcases hc with rfl | hc
    · rw [hfree] at e; cases e
    · rw [hfree] at hc; cases hc
  rcases hx with hk | hk
  · refine wpAny_storeName_local hk hn (fun h' hn' hs => ?_) hcls
    obtain ⟨oL, _, _, hoL, _⟩ := id hn
    refine h _ ⟨I.ok, I.os, I.bare, ⟨fun b o e n hb hx => ?_, fun b o e n hb hx => ?_, I.base.free, fun b o e hx => ?_, I.base.tups, I.base.frzs, I.base.tbls⟩, ⟨_, hn', fun j y v' e1 e2 e3 => ?_⟩, fun y c e => ?_, I.free, I.freeC, fun p hp => ?_, tracked ⟨oL, hoL, I.free⟩ hs, by simpa using I.len⟩ ⟨_, hs, .inl rfl⟩
    · exact (hs.2 b (Nat.ne_of_lt (Nat.lt_of_lt_of_le (Heap.lt_size e) I.ok.above))).trans (I.base.keep b o e n hb hx)
    · obtain ⟨sl, e1⟩ := I.base.slot b o e n hb hx
      exact ⟨sl, (hs.2 b (Nat.ne_of_lt (Nat.lt_of_lt_of_le (Heap.lt_size e) I.ok.above))).trans e1⟩
    · obtain ⟨o', e1⟩ := I.base.there b o e hx
      exact ⟨o', (hs.2 b (Nat.ne_of_lt (Nat.lt_of_lt_of_le (Heap.lt_size e) I.ok.above))).trans e1⟩
    · by_cases hj : j = i
      · subst hj
        rw [hi] at e1; cases e1
        rw [List.getElem?_set_self hiσ] at e2
        cases e2
        exact ⟨u, r, .inl ⟨hk, by simp⟩⟩
      · rw [List.getElem?_set_ne (Ne.symm hj)] at e2
        obtain ⟨u', r', q⟩ := hl j y v' e1 e2 e3
        refine ⟨u', r', ?_⟩
        rcases q with ⟨k, e⟩ | ⟨k, c, e, z⟩
        · refine .inl ⟨k, ?_⟩
          have : y ≠ x := fun e => hj (nodup_ix hN e1 (e ▸ hi))
          simp [this, e]
        · exact .inr ⟨k, c, e, z.sameBut hs (cne y c e)⟩
    · obtain ⟨w', z⟩ := I.cell y c e
      exact ⟨w', z.sameBut hs (cne y c e)⟩
    · obtain ⟨e, n, ne, nf, d⟩ := I.pin p hp
      exact ⟨(hs.2 p.1 ne).trans e, n, ne, nf, d⟩
  · have hfn : X.fn x = true := by
      rcases hf with z | z
      · exact z
      · rw [z] at hk; cases hk
    obtain ⟨c, hc⟩ := I.ok.has x (.inl hk)
    obtain ⟨w', z⟩ := I.cell x c hc
    refine wpAny_storeName_cell I.ok.kind hk hc z (fun h' hc' hs => ?_)
    obtain ⟨oc, hoc, hocd⟩ := id z
    refine h { s with heap := h' } ⟨I.ok, I.os, I.bare, ⟨fun b o e n hb hx => ?_, fun b o e n hb hx => ?_, I.base.free, fun b o e hx => ?_, I.base.tups, I.base.frzs, I.base.tbls⟩, ⟨m, hn.sameBut hs (Ne.symm (cne x c hc)), fun j y v' e1 e2 e3 => ?_⟩, fun y c' e => ?_, I.free, I.freeC, fun p hp => ?_, tracked ⟨oc, hoc, I.freeC x c hc⟩ hs, by simpa using I.len⟩ ⟨c, hs, .inr hc⟩
    · exact (hs.2 b (Nat.ne_of_lt (Nat.lt_of_lt_of_le (Heap.lt_size e) (I.ok.cab x c hfn hc)))).trans (I.base.keep b o e n hb hx)
    · obtain ⟨sl, e1⟩ := I.base.slot b o e n hb hx
      exact ⟨sl, (hs.2 b (Nat.ne_of_lt (Nat.lt_of_lt_of_le (Heap.lt_size e) (I.ok.cab x c hfn hc)))).trans e1⟩
    · obtain ⟨o', e1⟩ := I.base.there b o e hx
      exact ⟨o', (hs.2 b (Nat.ne_of_lt (Nat.lt_of_lt_of_le (Heap.lt_size e) (I.ok.cab x c hfn hc)))).trans e1⟩
    · by_cases hj : j = i
      · subst hj
        rw [hi] at e1; cases e1
        rw [List.getElem?_set_self hiσ] at e2
        cases e2
        exact ⟨u, r, .inr ⟨.inl hk, c, hc, hc'⟩⟩
      · rw [List.getElem?_set_ne (Ne.symm hj)] at e2
        obtain ⟨u', r', q⟩ := hl j y v' e1 e2 e3
        refine ⟨u', r', ?_⟩
        rcases q with q | ⟨k, c', e, z'⟩
        · exact .inl q
        · refine .inr ⟨k, c', e, z'.sameBut hs ?_⟩
          rintro rfl
          exact hj (nodup_ix hN e1 (I.ok.inj _ _ _ e hc ▸ hi))
    · by_cases hcc : c' = c
      · subst hcc; exact ⟨_, hc'⟩
      · obtain ⟨w2, z2⟩ := I.cell y c' e
        exact ⟨w2, z2.sameBut hs hcc⟩
    · obtain ⟨e, n, ne, nf, d⟩ := I.pin p hp
      refine ⟨(hs.2 p.1 ?_).trans e, n, ne, nf, d⟩
      intro q
      rw [q, hoc] at e
      have q' : oc = p.2 := Option.some.inj e
      exact d w' (by rw [← q']; exact hocd)
theorem store_ok {M : Model} {A : Around} {E : Value → Shared → Prop} {i : Nat} {x : Str} {v : V} {u : Value} {Q : Unit → Shared → Prop} (I : Inv X pins σ H s) (hN : X.N.Nodup) (hi : X.N[i]? = some x) (hx : Loc X.env.scope x) (r : RelV v u)
    (h : ∀ s', Inv X pins (σ.set i (some v)) H s' → Q () s') (hf : X.fn x = true ∨ X.env.scope.names.lookup x = some .local := by first | exact .inl rfl | exact .inr rfl | assumption) : wpAny M A (storeName X.env x u) Q E s :=
  store_ok2 I hN hi hx r (fun s' I' _ => h s' I') hf
/-- behind a call or a block, the state as it is -/
theorem Inv.call' {s' : Shared} {ch : List Addr} (I : Inv X pins σ H s) (ho : s'.os = s.os) (u : Un (frs X.stack) ch H H' s.heap s'.heap) (hok : HOk X.prog X.w H' s'.heap) (hg : AllBare s'.gens)
    (hch : ∀ b ∈ ch, (b ∈ X.ex ∨ X.s₀.heap.objs.size ≤ b) ∧ b ≠ X.env.locals ∧ (∀ x c, X.env.cells.lookup x = some c → c ≠ b) ∧ ∀ p ∈ X.pn ++ pins, p.1 ≠ b) : Inv X pins σ H' s' := by
  obtain ⟨h', g', d', t', o'⟩ := s'
  have e : o' = s.os := ho
  subst e
  exact I.call (g' := g') (t' := t') (d' := d') u hok hg hch
end

/-! ### the judgements -/
/-- an exception: its class, its own dict's address (where it has one), the abstract heap behind it -/
abbrev XK := Value → Option Addr → Hp → Prop
abbrev St := List (Option V)
abbrev VK := V → Hp → Prop
/-- an expression's reading; a test's; an argument list's -/
abbrev TE := St → Hp → VK → Prop
abbrev TT := St → Hp → (Bool → Hp → Prop) → Prop
abbrev TA := St → Hp → (List V → Hp → Prop) → Prop
/-- what is wanted behind a statement -/
structure Ends where
  nx : St → Hp → Prop
  rt : VK
  bk : St → Hp → Prop := fun _ _ => False
  ct : St → Hp → Prop := fun _ _ => False
abbrev TS := Ends → St → Hp → Prop

def EP (X : Cx) (pins : List (Addr × Obj)) (σ : St) (Q : VK) (u : Value) (s' : Shared) : Prop := ∃ v H', Inv X pins σ H' s' ∧ RelV v u ∧ Q v H'
def TP (X : Cx) (pins : List (Addr × Obj)) (σ : St) (Q : Bool → Hp → Prop) (b : Bool) (s' : Shared) : Prop := ∃ H', Inv X pins σ H' s' ∧ Q b H'
def AP (X : Cx) (pins : List (Addr × Obj)) (σ : St) (Q : List V → Hp → Prop) (us : List Value) (s' : Shared) : Prop := ∃ vs H', Inv X pins σ H' s' ∧ Vals vs us ∧ Q vs H'
def SP (X : Cx) (pins : List (Addr × Obj)) (D : Ends) (f : Flow) (s' : Shared) : Prop :=
  match f with
  | .next => ∃ σ' H', Inv X pins σ' H' s' ∧ D.nx σ' H'
  | .brk => ∃ σ' H', Inv X pins σ' H' s' ∧ D.bk σ' H'
  | .cont => ∃ σ' H', Inv X pins σ' H' s' ∧ D.ct σ' H'
  | .ret u => ∃ v σ' H', Inv X pins σ' H' s' ∧ RelV v u ∧ D.rt v H'

def PE (X : Cx) (e : Expr) (t : TE) : Prop :=
  ∀ (pins : List (Addr × Obj)) (s : Shared) (σ : St) (H : Hp) (Q : VK), Inv X pins σ H s → t σ H Q → wpAny (model X.prog X.w) X.A (eval e X.env) (EP X pins σ Q) X.xe s
def PT (X : Cx) (e : Expr) (t : TT) : Prop :=
  ∀ (pins : List (Addr × Obj)) (s : Shared) (σ : St) (H : Hp) (Q : Bool → Hp → Prop), Inv X pins σ H s → t σ H Q → wpAny (model X.prog X.w) X.A (isTrue e X.env (eval e X.env)) (TP X pins σ Q) X.xe s
/-- a test whatever its 'whole' is (and, or) -/
def PW (X : Cx) (e : Expr) (t : TT) : Prop :=
  ∀ (whole : Sem Value) (pins : List (Addr × Obj)) (s : Shared) (σ : St) (H : Hp) (Q : Bool → Hp → Prop), Inv X pins σ H s → t σ H Q → wpAny (model X.prog X.w) X.A (isTrue e X.env whole) (TP X pins σ Q) X.xe s
theorem PW.pt {X : Cx} {e : Expr} {t : TT} (h : PW X e t) : PT X e t := h _
/-- an argument list (no star), from the left -/
def PA (X : Cx) (es : List Expr) (t : TA) : Prop :=
  ∀ (pos : Pos) (pins : List (Addr × Obj)) (s : Shared) (σ : St) (H : Hp) (Q : List V → Hp → Prop), Inv X pins σ H s → t σ H Q → wpAny (model X.prog X.w) X.A (spliced (backTo pos (starEach es X.env))) (AP X pins σ Q) X.xe s
def PS (X : Cx) (st : Stmt) (t : TS) : Prop :=
  ∀ (pins : List (Addr × Obj)) (s : Shared) (σ : St) (H : Hp) (D : Ends), Inv X pins σ H s → t D σ H → wpAny (model X.prog X.w) X.A (exec st X.env) (SP X pins D) X.xe s
def PSs (X : Cx) (st : List Stmt) (t : TS) : Prop :=
  ∀ (pins : List (Addr × Obj)) (s : Shared) (σ : St) (H : Hp) (D : Ends), Inv X pins σ H s → t D σ H → wpAny (model X.prog X.w) X.A (execs st X.env) (SP X pins D) X.xe s
/-- weaken the end -/
theorem thn {α : Type} {t : Sem α} {Q Q' : α → Shared → Prop} {M : Model} {A : Around} {E : Value → Shared → Prop} {s : Shared} (h : wpAny M A t Q E s) (hQ : ∀ a s, Q a s → Q' a s) : wpAny M A t Q' E s := wpAny_mono h hQ fun _ _ x => x
end L2

namespace L2
open PySem PySem.Spec PyProof.Rows
section
variable {X : Cx}


/-! ### names and constants -/
def tVar (i : Nat) : TE := fun σ H Q => ∃ v, σ[i]? = some (some v) ∧ Q v H
def tC (v : V) : TE := fun _ H Q => Q v H
theorem pe_var {i : Nat} {x : Str} {pos : Pos} (hN : X.N[i]? = some x) (hv : Vis X.env.scope x) (hd : (x == ("__debug__" : Str)) = false := by decide) (hcd : (x == ("__classdict__" : Str)) = false := by decide) : PE X (.Name x pos) (tVar i) := by
  intro pins s σ H Q I h
  obtain ⟨v, e, h⟩ := h
  obtain ⟨m, hn, hl⟩ := I.loc
  obtain ⟨u, r, l⟩ := hl i x v hN e hv
  have fin : EP X pins σ Q u s := ⟨v, H, I, r, h⟩
  rcases l with ⟨hk, hm⟩ | ⟨hk, c, hc, hcell⟩
  · exact wpAny_Name (wpAny_loadName_local I.ok.kind hk hn hm fin) hd
  · rcases hk with hk | hk
    · exact wpAny_Name (wpAny_loadName_cell I.ok.kind hk hc hcell fin) hd
    · exact wpAny_Name (wpAny_loadName_free I.ok.kind hk hc hcell fin hcd) hd
theorem pe_int {i j pos} : PE X (.Constant (.int i) j pos) (tC (.int i)) := fun _ _ _ H _ I h => wpAny_Constant_int ⟨.int i, H, I.tok _, ⟨_, rfl⟩, h⟩
theorem pe_bl {b j pos} : PE X (.Constant (.bool b) j pos) (tC (.bl b)) := fun _ _ _ H _ I h => Constant_bool ⟨.bl b, H, I, rfl, h⟩
theorem pe_non {j pos} : PE X (.Constant .none j pos) (tC .non) := fun _ _ _ H _ I h => Constant_none ⟨.non, H, I, rfl, h⟩
theorem pe_str {x j pos} : PE X (.Constant (.str x) j pos) (tC (.str x)) := fun _ _ _ H _ I h => Calls.Constant_str ⟨.str x, H, I.tok _, ⟨_, rfl⟩, h⟩

/-- a global name of the def -/
def Gl (X : Cx) (x : Str) : Prop := X.env.kindOf x = some .globalImplicit
theorem ld_glob {E : Value → Shared → Prop} {pins : List (Addr × Obj)} {s : Shared} {σ : St} {H : Hp} {x : Str} {u : Value} {pos : Pos} {Q : Value → Shared → Prop} (I : Inv X pins σ H s) (hg : Gl X x) (hm : X.mg x = some u) (h : Q u s)
    (hd : (x == ("__debug__" : Str)) = false := by decide) : wpAny (model X.prog X.w) X.A (eval (.Name x pos) X.env) Q E s :=
  Calls.Name_function_global I.ok.kind hg (Calls.loadGlobal_global (by rw [I.ok.glob]; exact I.mod.glob.keeps I.bk) hm h) hd
theorem ld_blt {E : Value → Shared → Prop} {pins : List (Addr × Obj)} {s : Shared} {σ : St} {H : Hp} {x : Str} {u : Value} {pos : Pos} {Q : Value → Shared → Prop} (I : Inv X pins σ H s) (hg : Gl X x) (hm : X.mg x = none) (hv : bootBuiltins x = some u) (h : Q u s)
    (hn : x ≠ "__name__" := by decide) (hd : (x == ("__debug__" : Str)) = false := by decide) : wpAny (model X.prog X.w) X.A (eval (.Name x pos) X.env) Q E s := by
  obtain ⟨mb, h1, h2⟩ := I.mod.blt
  exact Calls.Name_function_global I.ok.kind hg (Calls.loadGlobal_builtin (by rw [I.ok.glob]; exact I.mod.glob.keeps I.bk) hm (by rw [I.ok.blt]; exact h1.keeps I.bk) ((h2 x hn).trans hv) h) hd
/-- a module's constant, a class, a function, as a value -/
theorem pe_glob {x : Str} {v : V} {u : Value} {pos : Pos} (hg : Gl X x) (hm : X.mg x = some u) (r : RelV v u) (hd : (x == ("__debug__" : Str)) = false := by decide) : PE X (.Name x pos) (tC v) :=
  fun _ _ _ H _ I h => ld_glob I hg hm ⟨v, H, I, r, h⟩ hd
theorem pe_bltn {x : Str} {v : V} {u : Value} {pos : Pos} (hg : Gl X x) (hm : X.mg x = none) (hv : bootBuiltins x = some u) (r : RelV v u) (hn : x ≠ "__name__" := by decide) (hd : (x == ("__debug__" : Str)) = false := by decide) : PE X (.Name x pos) (tC v) :=
  fun _ _ _ H _ I h => ld_blt I hg hm hv ⟨v, H, I, r, h⟩ hn hd

/-! ### arithmetic -/
/-- two ints -/
def t2I (ta tb : TE) (k : Int → Int → Hp → Prop) : St → Hp → Prop := fun σ H => ta σ H fun x H1 => tb σ H1 fun y H2 => ∃ i j, x = .int i ∧ y = .int j ∧ k i j H2
def tAdd (ta tb : TE) : TE := fun σ H Q => t2I ta tb (fun i j H2 => Q (.int (i + j)) H2) σ H
def tSub (ta tb : TE) : TE := fun σ H Q => t2I ta tb (fun i j H2 => Q (.int (i - j)) H2) σ H
/-- the left factor below 2^64 -/
def tMul (ta tb : TE) : TE := fun σ H Q => t2I ta tb (fun i j H2 => (-(2 ^ 64) < i ∧ i < 2 ^ 64) ∧ Q (.int (i * j)) H2) σ H
variable {a b : Expr} {ta tb : TE} {pos : Pos}

/-! ### comparisons -/
def PC (X : Cx) (op : CmpOp) (a b : Expr) (t : TE) : Prop :=
  ∀ (pins : List (Addr × Obj)) (s : Shared) (σ : St) (H : Hp) (Q : VK), Inv X pins σ H s → t σ H Q →
    wpAny (model X.prog X.w) X.A (eval a X.env) (fun v s₁ => wpAny (model X.prog X.w) X.A (eval b X.env) (fun u s₂ => wpAny (model X.prog X.w) X.A (compareOp op v u) (EP X pins σ Q) X.xe s₂) X.xe s₁) X.xe s
theorem nobehind (b : Expr) {op : CmpOp} (h : op ≠ .In) (h2 : op ≠ .NotIn) : behindInMarks op b = false := by
  have e1 : (op == CmpOp.In) = false := by cases op <;> first | rfl | exact absurd rfl h
  have e2 : (op == CmpOp.NotIn) = false := by cases op <;> first | rfl | exact absurd rfl h2
  cases b <;> simp [behindInMarks, e1, e2]
def tCmp (p : Int → Int → Bool) (ta tb : TE) : TE := fun σ H Q => t2I ta tb (fun i j H2 => Q (.bl (p i j)) H2) σ H
abbrev tLt : TE → TE → TE := tCmp fun i j => decide (i < j)
abbrev tLe : TE → TE → TE := tCmp fun i j => decide (i ≤ j)
abbrev tGt : TE → TE → TE := tCmp fun i j => decide (j < i)
abbrev tGe : TE → TE → TE := tCmp fun i j => decide (j ≤ i)
abbrev tEqI : TE → TE → TE := tCmp fun i j => decide (i = j)
abbrev tNeI : TE → TE → TE := tCmp fun i j => !decide (i = j)
/-- is None -/
def tIsN (ta : TE) : TE := fun σ H Q => ta σ H fun x H1 => Q (.bl (decide (x = .non))) H1
def tNotN (ta : TE) : TE := fun σ H Q => ta σ H fun x H1 => Q (.bl (!decide (x = .non))) H1
theorem RelV.none_iff {x : V} {v : Value} (r : RelV x v) : (v == Value.none) = decide (x = .non) := by
  cases x with
  | non => cases r; rfl
  | bl _ => cases r; rfl
  | int _ => obtain ⟨t, rfl⟩ := r; rfl
  | str _ => obtain ⟨t, rfl⟩ := r; rfl
  | byt _ => obtain ⟨t, rfl⟩ := r; rfl
  | flt _ => obtain ⟨t, rfl⟩ := r; rfl
  | ref _ => cases r; rfl
  | ty _ => cases r; rfl
theorem pc_isN {j pos'} (ha : PE X a ta) : PC X .Is a (.Constant .none j pos') (tIsN ta) := by
  intro pins s σ H Q I h
  refine thn (ha pins s σ H _ I h) fun v s1 ⟨x, H1, I1, r1, q1⟩ => ?_
  exact Constant_none (is_none_gen ⟨.bl _, H1, I1, by rw [r1.none_iff]; rfl, q1⟩)
/-- a comparison as a value, as a test -/
def tB (t : TE) : TT := fun σ H Q => t σ H fun x H1 => ∃ c, x = .bl c ∧ Q c H1
theorem pt_cmp {op : CmpOp} {t : TE} (h : PC X op a b t) (h1 : behindInMarks op b = false := by first | exact nobehind _ (by decide) (by decide) | rfl) : PT X (.Compare a [op] [b] pos) (tB t) := by
  intro pins s σ H Q I hw
  refine wpAny_isTrue_Compare1 (thn (h pins s σ H _ I hw) fun v s1 h1 => thn h1 fun u s2 h2 => thn h2 fun c s3 ⟨x, H1, I1, r1, q1⟩ => ?_) h1
  obtain ⟨d, rfl, q⟩ := q1
  cases r1
  exact wpAny_truthy_bool ⟨H1, I1, q⟩
/-- an expression whose value is a bool, as a test -/
theorem pt_val {e : Expr} {t : TE} (h : PE X e t) (he : ∀ whole, isTrue e X.env whole = (do let v ← whole; standAt e.pos; holding [v] (truthy v)) := by intro _; rfl) : PT X e (tB t) := by
  intro pins s σ H Q I hw
  refine isTrue_plain (thn (h pins s σ H _ I hw) fun v s1 ⟨x, H1, I1, r1, q1⟩ => ?_) (he _)
  obtain ⟨d, rfl, q⟩ := q1
  cases r1
  exact wpAny_truthy_bool ⟨H1, I1, q⟩

/-! ### and, or, not -/
variable {tA tB' : TT} {rest : List Expr}
def tAnd (t u : TT) : TT := fun σ H Q => t σ H fun c H1 => if c = true then u σ H1 Q else Q false H1
def tOr (t u : TT) : TT := fun σ H Q => t σ H fun c H1 => if c = true then Q true H1 else u σ H1 Q
def tNot (t : TT) : TT := fun σ H Q => t σ H fun c H1 => Q (!c) H1
theorem pw_and1 (ha : PT X a tA) : PW X (.BoolOp .And [a] pos) tA := by
  intro wh pins s σ H Q I h
  refine isTrue_and (thn (ha pins s σ H Q I h) fun c s1 e => ?_)
  cases c with
  | true => exact isTrue_and_nil e
  | false => exact e
theorem pw_or1 (ha : PT X a tA) : PW X (.BoolOp .Or [a] pos) tA := by
  intro wh pins s σ H Q I h
  refine isTrue_or (thn (ha pins s σ H Q I h) fun c s1 e => ?_)
  cases c with
  | false => exact isTrue_or_nil e
  | true => exact e
theorem pw_and (ha : PT X a tA) (hb : PW X (.BoolOp .And (b :: rest) pos) tB') : PW X (.BoolOp .And (a :: b :: rest) pos) (tAnd tA tB') := by
  intro wh pins s σ H Q I h
  refine isTrue_and (thn (ha pins s σ H _ I h) fun c s1 ⟨H1, I1, q1⟩ => ?_)
  cases c with
  | true => exact hb wh pins s1 σ H1 Q I1 q1
  | false => exact ⟨H1, I1, q1⟩
theorem pw_or (ha : PT X a tA) (hb : PW X (.BoolOp .Or (b :: rest) pos) tB') : PW X (.BoolOp .Or (a :: b :: rest) pos) (tOr tA tB') := by
  intro wh pins s σ H Q I h
  refine isTrue_or (thn (ha pins s σ H _ I h) fun c s1 ⟨H1, I1, q1⟩ => ?_)
  cases c with
  | true => exact ⟨H1, I1, q1⟩
  | false => exact hb wh pins s1 σ H1 Q I1 q1
theorem pt_not (ha : PT X a tA) : PT X (.UnaryOp .Not a pos) (tNot tA) := by
  intro pins s σ H Q I h
  exact isTrue_not (ha pins s σ H (fun c H1 => Q (!c) H1) I h)
/-- .. as values (bools) -/
def tAndV (ta tb : TE) : TE := fun σ H Q => ta σ H fun x H1 => ∃ c, x = .bl c ∧ if c = true then tb σ H1 Q else Q (.bl false) H1
def tOrV (ta tb : TE) : TE := fun σ H Q => ta σ H fun x H1 => ∃ c, x = .bl c ∧ if c = true then Q (.bl true) H1 else tb σ H1 Q
def tNotV (ta : TE) : TE := fun σ H Q => ta σ H fun x H1 => ∃ c, x = .bl c ∧ Q (.bl (!c)) H1
theorem pe_one {op} {t : TE} (h : PE X a t) : PE X (.BoolOp op [a] pos) t := fun pins s σ H Q I hw => BoolOp_one (h pins s σ H Q I hw)
theorem pe_and (ha : PE X a ta) (hb : PE X (.BoolOp .And (b :: rest) pos) tb) : PE X (.BoolOp .And (a :: b :: rest) pos) (tAndV ta tb) := by
  intro pins s σ H Q I h
  refine BoolOp_and (thn (ha pins s σ H _ I h) fun v s1 ⟨x, H1, I1, r1, q1⟩ => ?_)
  obtain ⟨c, rfl, q1⟩ := q1
  cases r1
  refine wpAny_truthy_bool ?_
  cases c with
  | true => exact hb pins s1 σ H1 Q I1 q1
  | false => exact ⟨.bl false, H1, I1, rfl, q1⟩
theorem pe_not (ha : PE X a ta) : PE X (.UnaryOp .Not a pos) (tNotV ta) := by
  intro pins s σ H Q I h
  refine UnaryOp_ (thn (ha pins s σ H _ I h) fun v s1 ⟨x, H1, I1, r1, q1⟩ => ?_)
  obtain ⟨c, rfl, q1⟩ := q1
  cases r1
  exact not_of (wpAny_truthy_bool ⟨.bl (!c), H1, I1, rfl, q1⟩)
/-- a if t else b -/
def tIf (t : TT) (ta tb : TE) : TE := fun σ H Q => t σ H fun c H1 => if c = true then ta σ H1 Q else tb σ H1 Q
end
end L2

namespace L2
open PySem PySem.Spec PyProof.Rows

/-! ### a list, a tuple that is read: tracked, frozen, or an object of the module -/
def SqL (K : PySem.W.Frag) (H : Hp) (a : Addr) (xs : List V) : Prop :=
  Rd H a (.lst xs) ∨
    ∃ (o : Obj) (its : Array Value) (n : Nat), K.lookup a = some o ∧ o.cls = .type "list" ∧ o.dict = none ∧ o.data = .seq its n ∧ its.size ≤ sizeLine ∧ Vals xs its.toList
def SqT (K : PySem.W.Frag) (H : Hp) (a : Addr) (xs : List V) : Prop :=
  Rd H a (.tup xs) ∨
    ∃ (o : Obj) (its : Array Value) (n : Nat), K.lookup a = some o ∧ o.cls = .type "tuple" ∧ o.data = .seq its n ∧ its.size ≤ sizeLine ∧ Vals xs its.toList
def absV : Value → Option V
  | .none => some .non
  | .bool b => some (.bl b)
  | .int i _ => some (.int i)
  | .str x _ => some (.str x)
  | .bytes b _ => some (.byt b)
  | .float b _ => some (.flt b)
  | .ref a => some (.ref a)
  | .type n => some (.ty n)
  | _ => none
theorem RelV.abs {x : V} {u : Value} (r : RelV x u) : absV u = some x := by
  cases x with
  | non => cases r; rfl
  | bl _ => cases r; rfl
  | int _ => obtain ⟨t, rfl⟩ := r; rfl
  | str _ => obtain ⟨t, rfl⟩ := r; rfl
  | byt _ => obtain ⟨t, rfl⟩ := r; rfl
  | flt _ => obtain ⟨t, rfl⟩ := r; rfl
  | ref _ => cases r; rfl
  | ty _ => cases r; rfl
theorem RelV.inj {x y : V} {u : Value} (r : RelV x u) (q : RelV y u) : x = y := Option.some.inj (r.abs.symm.trans q.abs)
theorem Vals.inj : ∀ {xs ys : List V} {us : List Value}, Vals xs us → Vals ys us → xs = ys
  | _, _, _, .nil, .nil => rfl
  | _, _, _, .cons r t, .cons r' t' => by rw [r.inj r', Vals.inj t t']
section
variable {X : Cx} {pins : List (Addr × Obj)} {σ : St} {H : Hp} {s : Shared} {a : Addr} {xs ys : List V}
theorem SqL.of {K : PySem.W.Frag} (h : H a = some (.lst xs)) : SqL K H a xs := .inl (.inl h)
theorem SqT.of {K : PySem.W.Frag} (h : H a = some (.tup xs)) : SqT K H a xs := .inl (.inl h)
theorem Inv.list (I : Inv X pins σ H s) (h : SqL X.K H a xs) : ∃ its : List Value, Vals xs its ∧ PlainL s.heap a its.toArray ∧ xs.length ≤ sizeLine := by
  rcases h with h | ⟨o, its, n, hk, hc, hd, hs, hz, r⟩
  · obtain ⟨z, its, n, r, e⟩ := h.ok I.hok
    exact ⟨its, r, ⟨_, n, e, rfl, rfl, rfl⟩, z⟩
  · refine ⟨its.toList, r, ⟨o, n, I.kIn a o hk, hc, hd, by simpa using hs⟩, ?_⟩
    have e := r.length
    simp only [Array.length_toList] at e
    omega
theorem Inv.tuple (I : Inv X pins σ H s) (h : SqT X.K H a xs) : ∃ its : List Value, Vals xs its ∧ IsTup s.heap a its.toArray ∧ xs.length ≤ sizeLine := by
  rcases h with h | ⟨o, its, n, hk, hc, hs, hz, r⟩
  · obtain ⟨z, its, r, p⟩ := h.ok I.hok
    exact ⟨its, r, p, z⟩
  · refine ⟨its.toList, r, ⟨o, I.kIn a o hk, hc, n, by simpa using hs⟩, ?_⟩
    have e := r.length
    simp only [Array.length_toList] at e
    omega
theorem Inv.list_inj (I : Inv X pins σ H s) (h : SqL X.K H a xs) (h' : SqL X.K H a ys) : xs = ys := by
  obtain ⟨its, r, ⟨o, n, e, _, _, d⟩, _⟩ := I.list h
  obtain ⟨its', r', ⟨o', n', e', _, _, d'⟩, _⟩ := I.list h'
  rw [e] at e'; cases e'
  rw [d] at d'
  injection d' with d1 _
  have : its = its' := by simpa using congrArg Array.toList d1
  subst this
  exact r.inj r'
theorem Inv.tuple_inj (I : Inv X pins σ H s) (h : SqT X.K H a xs) (h' : SqT X.K H a ys) : xs = ys := by
  obtain ⟨its, r, ⟨o, e, _, n, d⟩, _⟩ := I.tuple h
  obtain ⟨its', r', ⟨o', e', _, n', d'⟩, _⟩ := I.tuple h'
  rw [e] at e'; cases e'
  rw [d] at d'
  injection d' with d1 _
  have : its = its' := by simpa using congrArg Array.toList d1
  subst this
  exact r.inj r'
end

/-! ### another wish about exceptions -/
abbrev Cx.wish (X : Cx) (E : Value → Shared → Prop) : Cx := { X with xe := E }
/-- no exception leaves -/
abbrev Cx.nox (X : Cx) : Cx := X.wish fun _ _ => False
theorem Cx.Ok.wish {X : Cx} (ok : X.Ok) (E : Value → Shared → Prop) : (X.wish E).Ok :=
  ⟨ok.mod, ok.kind, ok.glob, ok.blt, ok.above, ok.inj, ok.has, ok.cab, ok.hd, ok.frames, ok.stk, ok.exf, ok.bs, ok.bsz, ok.noex, ok.exfs, ok.funs, ok.frf⟩
theorem Cx.Ok.unwish {X : Cx} {E : Value → Shared → Prop} (ok : (X.wish E).Ok) : X.Ok :=
  ⟨ok.mod, ok.kind, ok.glob, ok.blt, ok.above, ok.inj, ok.has, ok.cab, ok.hd, ok.frames, ok.stk, ok.exf, ok.bs, ok.bsz, ok.noex, ok.exfs, ok.funs, ok.frf⟩
section
variable {X : Cx} {pins : List (Addr × Obj)} {σ : St} {H : Hp} {s : Shared} {E : Value → Shared → Prop}
theorem Inv.wish (I : Inv X pins σ H s) (E : Value → Shared → Prop) : Inv (X.wish E) pins σ H s := ⟨I.ok.wish E, I.os, I.bare, I.base, I.loc, I.cell, I.free, I.freeC, I.pin, I.hok, I.len⟩
theorem Inv.unwish (I : Inv (X.wish E) pins σ H s) : Inv X pins σ H s := ⟨I.ok.unwish, I.os, I.bare, I.base, I.loc, I.cell, I.free, I.freeC, I.pin, I.hok, I.len⟩
theorem SP.unwish {D : Ends} {f : Flow} {s' : Shared} (h : SP (X.wish E) pins D f s') : SP X pins D f s' := by
  cases f with
  | next => obtain ⟨σ', H', I, q⟩ := h; exact ⟨σ', H', I.unwish, q⟩
  | brk => obtain ⟨σ', H', I, q⟩ := h; exact ⟨σ', H', I.unwish, q⟩
  | cont => obtain ⟨σ', H', I, q⟩ := h; exact ⟨σ', H', I.unwish, q⟩
  | ret u => obtain ⟨v, σ', H', I, r, q⟩ := h; exact ⟨v, σ', H', I.unwish, r, q⟩
theorem PSs.nox {st : List Stmt} {t : TS} (h : PSs X.nox st t) : PSs X st t := fun pins s σ H D I hw =>
  wpAny_mono (h pins s σ H D (I.wish _) hw) (fun _ _ q => q.unwish) fun _ _ z => False.elim z
end

/-! ### blocks and small statements -/
section
variable {X : Cx} {st : Stmt} {rest : List Stmt} {t u : TS} {e : Expr} {te : TE} {pos : Pos}
def tNext : TS := fun D σ H => D.nx σ H
def tSeq (t u : TS) : TS := fun D σ H => t { D with nx := u D } σ H
theorem pss_nil : PSs X [] tNext := fun _ _ σ H _ I h => wpAny_execs_nil ⟨σ, H, I, h⟩
theorem pss_cons (h1 : PS X st t) (h2 : PSs X rest u) : PSs X (st :: rest) (tSeq t u) := by
  intro pins s σ H D I h
  refine wpAny_execs_cons (thn (h1 pins s σ H { D with nx := u D } I h) fun f s1 q => ?_)
  cases f with
  | next =>
    obtain ⟨σ', H', I', q⟩ := q
    exact h2 pins s1 σ' H' D I' q
  | ret v => exact q
  | brk => exact q
  | cont => exact q
theorem pss_one (h1 : PS X st t) : PSs X [st] t := by
  intro pins s σ H D I h
  refine wpAny_execs_cons (thn (h1 pins s σ H D I h) fun f s1 q => ?_)
  cases f with
  | next => exact wpAny_execs_nil q
  | ret v => exact q
  | brk => exact q
  | cont => exact q
def tBreak : TS := fun D σ H => D.bk σ H
def tCont : TS := fun D σ H => D.ct σ H
/-- in a def's body nothing is shown -/
theorem Inv.quiet {pins : List (Addr × Obj)} {σ : St} {H : Hp} {s : Shared} (I : Inv X pins σ H s) : interactive X.env = false := by simp [interactive, I.ok.kind]
/-- an expression whose value is dropped -/
def tDrop (te : TE) : TS := fun D σ H => te σ H fun _ H1 => D.nx σ H1
theorem ps_expr (he : PE X e te) (hs : swapsWith e none pos.line X.env = pure false := by rfl) : PS X (.Expr e pos) (tDrop te) := by
  intro pins s σ H D I h
  exact wpAny_Expr_any (thn (he pins s σ H _ I h) fun v s1 ⟨x, H1, I1, r1, q1⟩ => ⟨σ, H1, I1, q1⟩) I.quiet hs
def tRet (te : TE) : TS := fun D σ H => te σ H D.rt
theorem ps_ret (he : PE X e te) : PS X (.Return (some e) pos) (tRet te) := by
  intro pins s σ H D I h
  exact wpAny_Return_some (thn (he pins s σ H _ I h) fun v s1 ⟨x, H1, I1, r1, q1⟩ => ⟨x, σ, H1, I1, r1, q1⟩)
def tRetN : TS := fun D _ H => D.rt .non H
def tIfS (c : TT) (t u : TS) : TS := fun D σ H => c σ H fun b H1 => if b = true then t D σ H1 else u D σ H1
theorem ps_if {c : Expr} {a b : List Stmt} {tc : TT} (hc : PT X c tc) (ha : PSs X a t) (hb : PSs X b u) : PS X (.If c a b pos) (tIfS tc t u) := by
  intro pins s σ H D I h
  refine wpAny_If (thn (hc pins s σ H _ I h) fun d s1 ⟨H1, I1, q1⟩ => ?_)
  cases d with
  | true => exact ha pins s1 σ H1 D I1 q1
  | false => exact hb pins s1 σ H1 D I1 q1
/-- code that the proof never comes to -/
def tNever : TS := fun _ _ _ => False
end

/-! ### targets -/
abbrev TG := V → St → Hp → (St → Hp → Prop) → Prop
abbrev TGs := List V → St → Hp → (St → Hp → Prop) → Prop
def PG (X : Cx) (target : Expr) (t : TG) : Prop :=
  ∀ (pins : List (Addr × Obj)) (s : Shared) (σ : St) (H : Hp) (v : V) (u : Value) (Q : St → Hp → Prop), Inv X pins σ H s → RelV v u → t v σ H Q →
    wpAny (model X.prog X.w) X.A (assign target X.env u) (fun _ s' => ∃ σ' H', Inv X pins σ' H' s' ∧ Q σ' H') X.xe s
/-- several targets, one after another -/
def PGs (X : Cx) (ts : List Expr) (t : TGs) : Prop :=
  ∀ (pins : List (Addr × Obj)) (s : Shared) (σ : St) (H : Hp) (vs : List V) (us : List Value) (Q : St → Hp → Prop), Inv X pins σ H s → Vals vs us → t vs σ H Q →
    wpAny (model X.prog X.w) X.A (assignInOrder ((assignEach ts X.env).map (·.2)) us) (fun _ s' => ∃ σ' H', Inv X pins σ' H' s' ∧ Q σ' H') X.xe s
/-- o[i] = v, by values -/
abbrev TSet := V → V → V → Hp → (Hp → Prop) → Prop
def PSet (X : Cx) (t : TSet) : Prop :=
  ∀ (pins : List (Addr × Obj)) (s : Shared) (σ : St) (H : Hp) (o i v : V) (ov iv u : Value) (Q : Hp → Prop), Inv X pins σ H s → RelV o ov → RelV i iv → RelV v u → t o i v H Q →
    wpAny (model X.prog X.w) X.A (setItem ov iv u) (fun _ s' => ∃ H', Inv X pins σ H' s' ∧ Q H') X.xe s
/-- a op= b, by values -/
abbrev TIp := V → V → Hp → VK → Prop
def PIp (X : Cx) (op : Operator) (t : TIp) : Prop :=
  ∀ (pins : List (Addr × Obj)) (s : Shared) (σ : St) (H : Hp) (x y : V) (v u : Value) (Q : VK), Inv X pins σ H s → RelV x v → RelV y u → t x y H Q →
    wpAny (model X.prog X.w) X.A (inplaceOp op v u) (EP X pins σ Q) X.xe s
section
variable {X : Cx} {pos : Pos}
def gName (i : Nat) : TG := fun v σ H Q => Q (σ.set i (some v)) H
theorem pg_name {i : Nat} {x : Str} (hN : X.N.Nodup) (hi : X.N[i]? = some x) (hx : Loc X.env.scope x) (hf : X.fn x = true ∨ X.env.scope.names.lookup x = some .local := by first | exact .inl rfl | exact .inr rfl | assumption) : PG X (.Name x pos) (gName i) := by
  intro pins s σ H v u Q I r h
  exact wpAny_assign_Name (store_ok I hN hi hx r (fun s' I' => ⟨_, H, I', h⟩) hf)
def gNil : TGs := fun vs σ H Q => vs = [] ∧ Q σ H
def gCons (t : TG) (u : TGs) : TGs := fun vs σ H Q => ∃ v r, vs = v :: r ∧ t v σ H fun σ' H' => u r σ' H' Q
/-- (a, b, ..) = a tuple of that length -/
def gTup (K : PySem.W.Frag) (n : Nat) (t : TGs) : TG := fun v σ H Q => ∃ a xs, v = .ref a ∧ SqT K H a xs ∧ xs.length = n ∧ t xs σ H Q
/-- o[i] = .. -/
def gSub (to ti : TE) (t : TSet) : TG := fun v σ H Q => to σ H fun o H1 => ti σ H1 fun i H2 => t o i v H2 fun H3 => Q σ H3
theorem pg_sub {o i : Expr} {to ti : TE} {t : TSet} (ho : PE X o to) (hi : PE X i ti) (hs : PSet X t)
    (ha : ∀ v, assign (.Subscript o i pos) X.env v = (do
      let ov ← holding [v] (eval o X.env)
      let iv ← holding [v, ov] (eval i X.env)
      standAt pos
      holding [v, ov, iv] (setItem ov iv v)
      release [v, ov, iv] []) := by intro _; rfl) : PG X (.Subscript o i pos) (gSub to ti t) := by
  intro pins s σ H v u Q I r h
  rw [ha]
  refine wpAny_bind (wpAny_holding (thn (ho pins s σ H _ I h) fun ov s1 ⟨x, H1, I1, r1, q1⟩ => ?_))
  refine wpAny_bind (wpAny_holding (thn (hi pins s1 σ H1 _ I1 q1) fun iv s2 ⟨y, H2, I2, r2, q2⟩ => ?_))
  refine wpAny_bind (wpAny_standAt (wpAny_bind (wpAny_holding (thn (hs pins s2 σ H2 x y v ov iv u _ I2 r1 r2 r q2) fun _ s3 ⟨H3, I3, q3⟩ => ?_))))
  exact wpAny_release ⟨σ, H3, I3, q3⟩
/-- target = value -/
def tAsg (te : TE) (g : TG) : TS := fun D σ H => te σ H fun x H1 => g x σ H1 D.nx
theorem ps_asg {tg e : Expr} {te : TE} {g : TG} (he : PE X e te) (hg : PG X tg g) (hs : swapsWithSole [tg] e pos.line X.env = pure false := by rfl) (hw : swappedStores [tg] e X.env = pure none := by rfl)
    (h1 : (assignEach [tg] X.env).map (·.2) = [assign tg X.env] := by rfl) : PS X (.Assign [tg] e pos) (tAsg te g) := by
  intro pins s σ H D I h
  refine wpAny_Assign_stores (thn (he pins s σ H _ I h) fun v s1 ⟨x, H1, I1, r1, q1⟩ => ?_) hs hw
  rw [h1]
  exact thn (hg pins s1 σ H1 x v _ I1 r1 q1) fun _ s2 q => q
/-- name = value -/
theorem ps_set {i : Nat} {x : Str} {e : Expr} {te : TE} {pos' : Pos} (hN : X.N.Nodup) (hi : X.N[i]? = some x) (hx : Loc X.env.scope x) (he : PE X e te) (hs : swapsWith e (some (.Name x pos')) pos.line X.env = pure false := by rfl) (hf : X.fn x = true ∨ X.env.scope.names.lookup x = some .local := by first | exact .inl rfl | exact .inr rfl | assumption) :
    PS X (.Assign [.Name x pos'] e pos) (tAsg te (gName i)) := by
  intro pins s σ H D I h
  refine wpAny_Assign_Name (thn (he pins s σ H _ I h) fun v s1 ⟨y, H1, I1, r1, q1⟩ => ?_) hs
  exact store_ok I1 hN hi hx r1 (fun s2 I2 => ⟨_, H1, I2, q1⟩) hf
/-- a, b = x, y with plain local names: stored from the right; the pair itself is not tracked (the opening rows as in PyProof/Rows/TupAssign.lean:23) -/
def tPar (i j : Nat) (ta : TA) : TS := fun D σ H => ta σ H fun vs H1 => ∃ v w, vs = [v, w] ∧ D.nx ((σ.set i (some v)).set j (some w)) H1
/-- name op= e -/
def tAug (i : Nat) (te : TE) (ti : TIp) : TS := fun D σ H => ∃ x, σ[i]? = some (some x) ∧ te σ H fun y H1 => ti x y H1 fun z H2 => D.nx (σ.set i (some z)) H2
/-- o[i] op= e -/
def tAugS (to ti te : TE) (tget : V → V → Hp → VK → Prop) (tip : TIp) (tset : TSet) : TS := fun D σ H => to σ H fun o H1 => ti σ H1 fun i H2 => tget o i H2 fun x H3 => te σ H3 fun y H4 => tip x y H4 fun z H5 => tset o i z H5 fun H6 => D.nx σ H6
/-- o[i], by values -/
def PGet (X : Cx) (t : V → V → Hp → VK → Prop) : Prop :=
  ∀ (pins : List (Addr × Obj)) (s : Shared) (σ : St) (H : Hp) (o i : V) (ov iv : Value) (Q : VK), Inv X pins σ H s → RelV o ov → RelV i iv → t o i H Q →
    wpAny (model X.prog X.w) X.A (getItem ov iv) (EP X pins σ Q) X.xe s
/-- ints -/
def ipI (f : Int → Int → Int) : TIp := fun x y H Q => ∃ i j, x = .int i ∧ y = .int j ∧ Q (.int (f i j)) H
end

/-! ### while -/
section
variable {X : Cx} {pos : Pos}
/-- the invariant W with its measure -/
def tWhile (c : TT) (tb : TS) : TS := fun D σ H => ∃ W : Nat → St → Hp → Prop, (∃ m, W m σ H) ∧ ∀ m σ H, W m σ H →
  c σ H fun b H1 => if b = true then ∃ N : St → Hp → Prop, (∀ σ' H', N σ' H' → ∃ m', m' < m ∧ W m' σ' H') ∧ tb { D with nx := N, ct := N, bk := D.nx } σ H1 else D.nx σ H1
end

/-! ### what a loop or a comprehension walks -/
/-- at turn i: it yields x (the heap may grow), or it stops -/
structure It where
  go : Nat → Hp → Prop
  yld : Nat → Hp → V → Hp → Prop
  stop : Nat → Hp → Prop
/-- the iterator's own objects may turn: they are not the frame's, not pinned, younger than the entry (or a comprehension's own) -/
def FpOk (X : Cx) (pins : List (Addr × Obj)) (H : Hp) (b : Addr) : Prop :=
  H b = none ∧ b ≠ X.env.locals ∧ b ∉ X.fs ∧ (b ∈ X.ex ∨ X.s₀.heap.objs.size ≤ b) ∧ (∀ x c, X.env.cells.lookup x = some c → c ≠ b) ∧ ∀ p ∈ X.pn ++ pins, p.1 ≠ b
theorem Inv.fpOk {X : Cx} {pins : List (Addr × Obj)} {σ : St} {H H' : Hp} {s : Shared} {b : Addr} (I : Inv X pins σ H s) (hb : s.heap.objs.size ≤ b) (hn : H' b = none) : FpOk X pins H' b := by
  refine ⟨hn, Nat.ne_of_gt (Nat.lt_of_lt_of_le I.lt hb), I.nofs hb, .inr (Nat.le_trans I.sz hb), fun x c e z => ?_, fun p hp z => ?_⟩
  · obtain ⟨v, q⟩ := I.cell x c e
    exact absurd (Nat.lt_of_lt_of_le q.lt (by rw [z]; exact hb)) (Nat.lt_irrefl _)
  · exact absurd (Nat.lt_of_lt_of_le (Heap.lt_size (I.pin p hp).1) (by rw [z]; exact hb)) (Nat.lt_irrefl _)
structure Turn (P : Program) (w : World) (K : PySem.W.Frag) (tg : Expr) (J : It) (fp : List Addr) (it : Addr) (tn : Nat → Heap → Prop) : Prop where
  mem : it ∈ fp
  obj : ∀ i h, tn i h → ∀ b ∈ fp, ∃ o, h.get? b = some o ∧ ∀ v, o.data ≠ .cell v
  keep : ∀ i h h', tn i h → (∀ b ∈ fp, ∀ o, h.get? b = some o → h'.get? b = some o) → tn i h'
  item : ∀ (X : Cx), X.prog = P → X.w = w → X.K = K → X.calm = true → ∀ (i : Nat) (pins : List (Addr × Obj)) (s : Shared) (σ : St) (H : Hp) (E : Value → Shared → Prop), Inv X pins σ H s → (∀ b ∈ fp, FpOk X pins H b) → tn i s.heap → J.go i H →
    wpAny (model P w) X.A (pyNext (.ref it)) (fun r s1 => ∃ u, r = some u ∧
      wpAny (model P w) X.A (letOwnedTupleGo tg (.ref it) u) (fun _ s2 => ∃ x H', Inv X pins σ H' s2 ∧ RelV x u ∧ J.yld i H x H' ∧ tn (i + 1) s2.heap ∧ ∀ b ∈ fp, H' b = none) E s1) E s
  done : ∀ (X : Cx), X.prog = P → X.w = w → X.K = K → X.calm = true → ∀ (i : Nat) (pins : List (Addr × Obj)) (s : Shared) (σ : St) (H : Hp) (E : Value → Shared → Prop), Inv X pins σ H s → (∀ b ∈ fp, FpOk X pins H b) → tn i s.heap → J.stop i H →
    wpAny (model P w) X.A (pyNext (.ref it)) (fun r s1 => r = none ∧ Inv X pins σ H s1) E s
  self : ∀ (A : Around) (i : Nat) (s : Shared) (Q : Value → Shared → Prop) (E : Value → Shared → Prop), tn i s.heap → Q (.ref it) s → wpAny (model P w) A (pyIter (.ref it)) Q E s
abbrev TI := St → Hp → (It → Hp → Prop) → Prop
/-- an iterator has come -/
def PIE (X : Cx) (pins : List (Addr × Obj)) (σ : St) (tg : Expr) (R : It → Hp → Prop) (itv : Value) (s2 : Shared) : Prop :=
  ∃ (it : Addr) (fp : List Addr) (tn : Nat → Heap → Prop) (J : It) (H' : Hp), itv = .ref it ∧ Inv X pins σ H' s2 ∧ Turn X.prog X.w X.K tg J fp it tn ∧ tn 0 s2.heap ∧ (∀ b ∈ fp, FpOk X pins H' b) ∧ R J H'
def PI (X : Cx) (tg iter : Expr) (wi : TI) : Prop :=
  ∀ (pins : List (Addr × Obj)) (s : Shared) (σ : St) (H : Hp) (R : It → Hp → Prop), Inv X pins σ H s → wi σ H R →
    wpAny (model X.prog X.w) X.A (eval iter X.env) (fun v s1 => wpAny (model X.prog X.w) X.A (pyIter v) (PIE X pins σ tg R) X.xe s1) X.xe s

/-- the step ahead of the store is nothing for an iterator that keeps no tuple -/
theorem go_of {M : Model} {A : Around} {E : Value → Shared → Prop} {s : Shared} {tg : Expr} {it : Addr} {u : Value} {o : Obj} {n : String} {vs : Array Value} {Q : Unit → Shared → Prop} (ho : s.heap.get? it = some o) (hc : o.cls = .type n) (hd : o.data = .fields vs)
    (hn : ["enumerate", "zip", "dict_itemiterator", "dict_reverseitemiterator", "odict_iterator", "itertools.zip_longest", "itertools.pairwise"].contains n = false) (hQ : Q () s) : wpAny M A (letOwnedTupleGo tg (.ref it) u) Q E s := by
  unfold letOwnedTupleGo
  cases tg <;> first
    | exact wpAny_pure hQ
    | (cases u <;> first
        | exact wpAny_pure hQ
        | (refine wpAny_bind (wpAny_load ho ?_)
           rw [hc, hd]
           show wpAny M A (if (["enumerate", "zip", "dict_itemiterator", "dict_reverseitemiterator", "odict_iterator", "itertools.zip_longest", "itertools.pairwise"].contains n && vs[0]? == some (rawInt _)) = true then _ else _) Q E s
           rw [if_neg (by intro h; rw [hn, Bool.false_and] at h; cases h)]
           exact wpAny_pure hQ))

/-- the list at a, as it stands at each turn (a loop may append to it) -/
def Itl (K : PySem.W.Frag) (a : Addr) : It :=
  ⟨fun i H => ∃ xs x, SqL K H a xs ∧ xs[i]? = some x, fun i H x H' => H' = H ∧ ∀ xs, SqL K H a xs → xs[i]? = some x, fun i H => ∃ xs, SqL K H a xs ∧ xs.length ≤ i⟩
def Itt (K : PySem.W.Frag) (a : Addr) : It :=
  ⟨fun i H => ∃ xs x, SqT K H a xs ∧ xs[i]? = some x, fun i H x H' => H' = H ∧ ∀ xs, SqT K H a xs → xs[i]? = some x, fun i H => ∃ xs, SqT K H a xs ∧ xs.length ≤ i⟩
/-- lo, lo + 1, .. (n of them) -/
def Itr (lo : Int) (n : Nat) : It := ⟨fun i _ => i < n, fun i H x H' => H' = H ∧ x = .int (lo + i), fun i _ => n ≤ i⟩
theorem turn_list {P : Program} {w : World} {K : PySem.W.Frag} {tg : Expr} (a it : Addr) : Turn P w K tg (Itl K a) [it] it (fun i h => h.IsListIter it a i) where
  mem := by simp
  obj := fun i h st b hb => by
    have e : b = it := by simpa using hb
    subst e
    obtain ⟨o, e, c, d⟩ := st
    exact ⟨o, e, fun v z => by rw [d] at z; cases z⟩
  keep := fun i h h' st k => st.at fun o e => k it (by simp) o e
  item := by
    intro X hP hw hK hc i pins s σ H E I hf st hg
    subst hP hw hK
    obtain ⟨xs, x, hq, hx⟩ := hg
    obtain ⟨its, rv, p, hz⟩ := I.list hq
    obtain ⟨u, hu, ru⟩ := rv.get hx
    obtain ⟨f0, f1, f2, f3, f4, f5⟩ := hf it (by simp)
    refine wpAny_pyNext_list_item st p.isList (x := u) (by simpa using hu) fun h' st' sb => ?_
    have I1 : Inv X pins σ H { s with heap := h' } := I.turned (t' := s.toks) (fun b o hb e => (sb.2 b hb).trans e) f0 f1 f3 f4 f5
    obtain ⟨o, e, c, d⟩ := id st'
    exact ⟨u, rfl, go_of (s := { s with heap := h' }) e c d (by decide) ⟨x, H, I1, ru, ⟨rfl, fun ys hy => by rw [I.list_inj hy hq]; exact hx⟩, st', fun b hb => (hf b hb).1⟩⟩
  done := by
    intro X hP hw hK hc i pins s σ H E I hf st hg
    subst hP hw hK
    obtain ⟨xs, hq, hx⟩ := hg
    obtain ⟨its, rv, p, hz⟩ := I.list hq
    obtain ⟨f0, f1, f2, f3, f4, f5⟩ := hf it (by simp)
    have hl := rv.length
    exact wpAny_pyNext_list_end (I.ok.hd hc) st p.isList (by simp; omega) fun h' eb => ⟨rfl, I.turned (t' := s.toks) (fun b o hb e => eb b o hb e) f0 f1 f3 f4 f5⟩
  self := fun _ _ _ _ _ st h => wpAny_pyIter_listiter st h
theorem turn_tuple {P : Program} {w : World} {K : PySem.W.Frag} {tg : Expr} (a it : Addr) : Turn P w K tg (Itt K a) [it] it (fun i h => h.IsTupleIter it a i) where
  mem := by simp
  obj := fun i h st b hb => by
    have e : b = it := by simpa using hb
    subst e
    obtain ⟨o, e, c, d⟩ := st
    exact ⟨o, e, fun v z => by rw [d] at z; cases z⟩
  keep := fun i h h' st k => st.at fun o e => k it (by simp) o e
  item := by
    intro X hP hw hK hc i pins s σ H E I hf st hg
    subst hP hw hK
    obtain ⟨xs, x, hq, hx⟩ := hg
    obtain ⟨its, rv, p, hz⟩ := I.tuple hq
    obtain ⟨u, hu, ru⟩ := rv.get hx
    obtain ⟨f0, f1, f2, f3, f4, f5⟩ := hf it (by simp)
    refine wpAny_pyNext_tuple_item st (show s.heap.IsTuple a its.toArray from p) (x := u) (by simpa using hu) fun h' st' sb => ?_
    have I1 : Inv X pins σ H { s with heap := h' } := I.turned (t' := s.toks) (fun b o hb e => (sb.2 b hb).trans e) f0 f1 f3 f4 f5
    obtain ⟨o, e, c, d⟩ := id st'
    exact ⟨u, rfl, go_of (s := { s with heap := h' }) e c d (by decide) ⟨x, H, I1, ru, ⟨rfl, fun ys hy => by rw [I.tuple_inj hy hq]; exact hx⟩, st', fun b hb => (hf b hb).1⟩⟩
  done := by
    intro X hP hw hK hc i pins s σ H E I hf st hg
    subst hP hw hK
    obtain ⟨xs, hq, hx⟩ := hg
    obtain ⟨its, rv, p, hz⟩ := I.tuple hq
    obtain ⟨f0, f1, f2, f3, f4, f5⟩ := hf it (by simp)
    have hl := rv.length
    exact wpAny_pyNext_tuple_end (I.ok.hd hc) st (show s.heap.IsTuple a its.toArray from p) (by simp; omega) fun h' eb => ⟨rfl, I.turned (t' := s.toks) (fun b o hb e => eb b o hb e) f0 f1 f3 f4 f5⟩
  self := fun _ _ _ _ _ st h => wpAny_pyIter_tupleiter st h
theorem turn_range {P : Program} {w : World} {K : PySem.W.Frag} {tg : Expr} (it : Addr) (lo : Int) (n : Nat) : Turn P w K tg (Itr lo n) [it] it (fun i h => IsRangeIter h it (lo + (i : Nat) * 1) ((n : Int) - (i : Nat)) 1) where
  mem := by simp
  obj := fun i h st b hb => by
    have e : b = it := by simpa using hb
    subst e
    exact ⟨_, st, fun v z => by
      have z' : Data.fields _ = Data.cell v := z
      cases z'⟩
  keep := fun i h h' st k => k it (by simp) _ st
  item := by
    intro X hP hw hK hc i pins s σ H E I hf st hg
    subst hP hw hK
    obtain ⟨f0, f1, f2, f3, f4, f5⟩ := hf it (by simp)
    have W := Walks.range (prog := X.prog) (w := X.w) (I.ok.hd hc) it lo 1 n
    refine W.item i s _ _ hg st fun v h' tk hv st' kk => ?_
    obtain ⟨t, rfl⟩ := hv
    have I1 : Inv X pins σ H { s with heap := h', toks := tk } := I.turned (fun b o hb e => kk b o (by simpa using hb) e) f0 f1 f3 f4 f5
    refine ⟨_, rfl, go_of (s := { s with heap := h', toks := tk }) (n := "range_iterator") st' rfl rfl (by decide) ⟨.int (lo + i), H, I1, ⟨t, ?_⟩, ⟨rfl, rfl⟩, st', fun b hb => (hf b hb).1⟩⟩
    rw [Int.mul_one]
  done := by
    intro X hP hw hK hc i pins s σ H E I hf st hg
    subst hP hw hK
    obtain ⟨f0, f1, f2, f3, f4, f5⟩ := hf it (by simp)
    exact wpAny_pyNext_range_end (I.ok.hd hc) st (by have : n ≤ i := hg; omega) fun h' eb => ⟨rfl, I.turned (t' := s.toks) (fun b o hb e => eb b o hb e) f0 f1 f3 f4 f5⟩
  self := fun _ _ _ _ _ st h => wpAny_pyIter_rangeiter st h
end L2

namespace L2
open PySem PySem.Spec PyProof.Rows
section
variable {X : Cx} {tg : Expr}
def iList (K : PySem.W.Frag) (tl : TE) : TI := fun σ H R => tl σ H fun x H1 => ∃ a, x = .ref a ∧ (∃ xs, SqL K H1 a xs) ∧ R (Itl K a) H1
def iTup (K : PySem.W.Frag) (tl : TE) : TI := fun σ H R => tl σ H fun x H1 => ∃ a, x = .ref a ∧ (∃ xs, SqT K H1 a xs) ∧ R (Itt K a) H1
theorem pi_list {l : Expr} {tl : TE} (hl : PE X l tl) : PI X tg l (iList X.K tl) := by
  intro pins s σ H R I h
  refine thn (hl pins s σ H _ I h) fun v s1 ⟨x, H1, I1, r1, q1⟩ => ?_
  obtain ⟨a, e, ⟨xs, hq⟩, q⟩ := q1
  subst e
  cases r1
  obtain ⟨its, rv, p, hz⟩ := I1.list hq
  refine wpAny_pyIter_list p.isList ?_
  refine ⟨s1.heap.objs.size, [s1.heap.objs.size], _, _, H1, rfl, I1.kept (t' := s1.toks) fun b o e => Heap.get?_push_of_some _ e, turn_list a _, ⟨_, Heap.get?_push_size _ rfl, rfl, rfl⟩, fun b hb => ?_, q⟩
  have e : b = s1.heap.objs.size := by simpa using hb
  subst e
  exact I1.fpOk (Nat.le_refl _) (I1.hok.fresh (Nat.le_refl _))
theorem pi_tup {l : Expr} {tl : TE} (hl : PE X l tl) : PI X tg l (iTup X.K tl) := by
  intro pins s σ H R I h
  refine thn (hl pins s σ H _ I h) fun v s1 ⟨x, H1, I1, r1, q1⟩ => ?_
  obtain ⟨a, e, ⟨xs, hq⟩, q⟩ := q1
  subst e
  cases r1
  obtain ⟨its, rv, p, hz⟩ := I1.tuple hq
  refine wpAny_pyIter_tuple (show s1.heap.IsTuple a its.toArray from p) ?_
  refine ⟨s1.heap.objs.size, [s1.heap.objs.size], _, _, H1, rfl, I1.kept (t' := s1.toks) fun b o e => Heap.get?_push_of_some _ e, turn_tuple a _, ⟨_, Heap.get?_push_size _ rfl, rfl, rfl⟩, fun b hb => ?_, q⟩
  have e : b = s1.heap.objs.size := by simpa using hb
  subst e
  exact I1.fpOk (Nat.le_refl _) (I1.hok.fresh (Nat.le_refl _))
/-- a range object just made, walked -/
theorem range_it {pins : List (Addr × Obj)} {σ : St} {H : Hp} {s : Shared} {R : It → Hp → Prop} {E : Value → Shared → Prop} {lo hi : Int} {t u v : Tok} {tk : Nat} (I : Inv X pins σ H s) (h1 : -(2 ^ 62) ≤ lo) (h2 : lo < 2 ^ 62) (h3 : -(2 ^ 62) ≤ hi) (h4 : hi < 2 ^ 62)
    (q : R (Itr lo (hi - lo).toNat) H) : wpAny (model X.prog X.w) X.A (pyIter (.ref s.heap.objs.size)) (PIE X pins σ tg R) E { s with heap := s.heap.push { cls := .type "range", data := .fields #[.int lo t, .int hi u, .int 1 v] }, toks := tk } := by
  refine wpAny_pyIter_range (IsRange.new ..) (small_one h1 h2 h3 h4) ?_
  have I1 : Inv X pins σ H { s with heap := s.heap.push { cls := .type "range", data := .fields #[.int lo t, .int hi u, .int 1 v] }, toks := tk } := I.kept fun b o e => Heap.get?_push_of_some _ e
  refine ⟨(s.heap.push { cls := .type "range", data := .fields #[.int lo t, .int hi u, .int 1 v] }).objs.size, [(s.heap.push { cls := .type "range", data := .fields #[.int lo t, .int hi u, .int 1 v] }).objs.size], _, _, H, rfl,
    I1.kept (t' := tk) fun b o e => Heap.get?_push_of_some _ e, turn_range _ lo (hi - lo).toNat, ?_, fun b hb => ?_, q⟩
  · have e1 : lo + ((0 : Nat) : Int) * 1 = lo := by simp
    have e2 : (((hi - lo).toNat : Nat) : Int) - ((0 : Nat) : Int) = Builtin.Range.rangeSize lo hi 1 := by rw [rangeSize_one]; split <;> omega
    show IsRangeIter _ _ (lo + ((0 : Nat) : Int) * 1) ((((hi - lo).toNat : Nat) : Int) - ((0 : Nat) : Int)) 1
    rw [e1, e2]
    exact Heap.get?_push_size _ rfl
  · have e : b = (s.heap.push { cls := .type "range", data := .fields #[.int lo t, .int hi u, .int 1 v] }).objs.size := by simpa using hb
    subst e
    exact I1.fpOk (Nat.le_refl _) (I1.hok.fresh (Nat.le_refl _))
def iRng1 (ta : TA) : TI := fun σ H R => ta σ H fun vs H1 => ∃ j : Int, vs = [.int j] ∧ -(2 ^ 62) ≤ j ∧ j < 2 ^ 62 ∧ R (Itr 0 j.toNat) H1
def iRng2 (ta : TA) : TI := fun σ H R => ta σ H fun vs H1 => ∃ i j : Int, vs = [.int i, .int j] ∧ (-(2 ^ 62) ≤ i ∧ i < 2 ^ 62 ∧ -(2 ^ 62) ≤ j ∧ j < 2 ^ 62) ∧ R (Itr i (j - i).toNat) H1
theorem pi_range1 {a : Expr} {ta : TA} {p pos : Pos} (hg : Gl X "range") (hm : X.mg "range" = none) (ha : PA X [a] ta) (hs : starEach [a] X.env = [(false, eval a X.env)] := by rfl) : PI X tg (.Call (.Name "range" p) [a] [] pos) (iRng1 ta) := by
  intro pins s σ H R I h
  refine Call_ (ld_blt I hg hm boot_range (PyProof.Rows.callWith_type1 (thn (ha pos pins s σ H _ I h) fun us s1 ⟨vs, H1, I1, r1, q1⟩ => ?_) hs rfl))
  obtain ⟨j, e, q1, q2, q⟩ := q1
  subst e
  cases r1 with
  | cons r rr =>
    cases rr
    obtain ⟨t, rfl⟩ := r
    exact call_range_1 (range_it I1 (by omega) (by omega) q1 q2 (by simpa using q))

/-! ### for -/
/-- W: the invariant by the turn and a measure; N: what the body is to reach -/
def tFor (wi : TI) (g : TG) (tb : TS) : TS := fun D σ H => wi σ H fun J H1 => ∃ W : Nat → Nat → St → Hp → Prop, (∃ m, W 0 m σ H1) ∧ ∀ i m σ H, W i m σ H →
  (J.stop i H ∧ D.nx σ H) ∨ (J.go i H ∧ ∃ N : St → Hp → Prop, (∀ σ' H', N σ' H' → ∃ m', m' < m ∧ W (i + 1) m' σ' H') ∧ ∀ x H', J.yld i H x H' → g x σ H' fun σ2 H2 => tb { D with nx := N, ct := N, bk := D.nx } σ2 H2)
/-- the records at fp as they stand -/
def pinsAt (fp : List Addr) (h : Heap) : List (Addr × Obj) := fp.filterMap fun b => (h.get? b).map fun o => (b, o)
theorem mem_pinsAt {fp : List Addr} {h : Heap} {b : Addr} {o : Obj} (hb : b ∈ fp) (e : h.get? b = some o) : (b, o) ∈ pinsAt fp h := List.mem_filterMap.mpr ⟨b, hb, by rw [e]; rfl⟩
theorem of_pinsAt {fp : List Addr} {h : Heap} {p : Addr × Obj} (hp : p ∈ pinsAt fp h) : p.1 ∈ fp ∧ h.get? p.1 = some p.2 := by
  obtain ⟨b, hb, e⟩ := List.mem_filterMap.mp hp
  cases q : h.get? b with
  | none => rw [q] at e; cases e
  | some o =>
    rw [q] at e
    have e' : (b, o) = p := Option.some.inj e
    subst e'
    exact ⟨hb, q⟩
theorem Inv.pinned {pins : List (Addr × Obj)} {σ : St} {H : Hp} {s : Shared} {fp : List Addr} (I : Inv X pins σ H s) (hf : ∀ b ∈ fp, FpOk X pins H b) (ho : ∀ b ∈ fp, ∃ o, s.heap.get? b = some o ∧ ∀ v, o.data ≠ .cell v) : Inv X (pins ++ pinsAt fp s.heap) σ H s :=
  I.pins_of fun p hp => (List.mem_append.mp hp).elim (fun z => I.pin p (List.mem_append_right _ z)) fun z => by
    obtain ⟨hb, e⟩ := of_pinsAt z
    obtain ⟨f0, f1, f2, _⟩ := hf p.1 hb
    obtain ⟨o, e', d⟩ := ho p.1 hb
    rw [e] at e'; cases e'
    exact ⟨e, f0, f1, f2, d⟩
theorem Inv.unpinned {pins pl : List (Addr × Obj)} {σ : St} {H : Hp} {s : Shared} (I : Inv X (pins ++ pl) σ H s) : Inv X pins σ H s := I.pins_of fun p hp => I.pin p (List.mem_append_right _ (List.mem_append_left _ hp))
theorem ps_for {iter : Expr} {body : List Stmt} {wi : TI} {g : TG} {tb : TS} {pos : Pos} (hp : PassesOwn (model X.prog X.w) X.A X.env X.xe) (hc : X.calm = true) (hi : PI X tg iter wi) (hg : PG X tg g) (hb : PSs X body tb)
    (hs : ∀ x, foldedSetIterable iter X.env x = pure x := by intro _; rfl) : PS X (.For tg iter body [] pos) (tFor wi g tb) := by
  intro pins s σ H D I h
  refine wpAny_For (thn (hi pins s σ H _ I h) fun v s1 h1 => thn h1 fun itv s2 h2 => ?_) hs
  obtain ⟨it, fp, tn, J, H2, e, I2, T, st2, f2, W, ⟨m0, w0⟩, turn⟩ := h2
  subst e
  -- what stays true of the iterator's objects through the loop
  have stat : ∀ {H' : Hp}, (∀ b ∈ fp, H' b = none) → ∀ b ∈ fp, FpOk X pins H' b := fun hn b hb => ⟨hn b hb, (f2 b hb).2⟩
  refine codeAny_forLoop_any (fun n s' => ∃ i σ' H', Inv X pins σ' H' s' ∧ tn i s'.heap ∧ (∀ b ∈ fp, H' b = none) ∧ W i n σ' H') ?_ m0 ⟨0, σ, H2, I2, st2, fun b hb => (f2 b hb).1, w0⟩
  rintro n s3 ⟨i, σ3, H3, I3, st3, fr3, w3⟩
  rcases turn i n σ3 H3 w3 with ⟨stop, qn⟩ | ⟨go, N, hN, step⟩
  · refine wpAny_passesOwn hp (thn (T.done X rfl rfl rfl hc i pins s3 σ3 H3 X.xe I3 (stat fr3) st3 stop) fun r s4 ⟨hr, I4⟩ => ?_)
    subst hr
    exact wpAny_execs_nil ⟨σ3, H3, I4, qn⟩
  · refine wpAny_passesOwn hp (thn (T.item X rfl rfl rfl hc i pins s3 σ3 H3 X.xe I3 (stat fr3) st3 go) fun r s4 ⟨u, hr, h4⟩ => ?_)
    subst hr
    refine wpAny_passesOwn hp (thn h4 fun _ s5 ⟨x, H5, I5, r5, y5, st5, fr5⟩ => ?_)
    have I5' := I5.pinned (stat fr5) (T.obj _ _ st5)
    refine wpAny_passesOwn hp (thn (hg _ s5 σ3 H5 x u _ I5' r5 (step x H5 y5)) fun _ s6 ⟨σ6, H6, I6, q6⟩ => ?_)
    refine wpAny_passesOwn hp (thn (hb _ s6 σ6 H6 _ I6 q6) fun f s7 q7 => ?_)
    have again : ∀ {σ7 : St} {H7 : Hp}, Inv X (pins ++ pinsAt fp s5.heap) σ7 H7 s7 → N σ7 H7 → ∃ m, m < n ∧ ∃ i σ' H', Inv X pins σ' H' s7 ∧ tn i s7.heap ∧ (∀ b ∈ fp, H' b = none) ∧ W i m σ' H' := fun {σ7 H7} I7 n7 => by
      obtain ⟨m', hm, w7⟩ := hN σ7 H7 n7
      refine ⟨m', hm, i + 1, σ7, H7, I7.unpinned, T.keep _ _ _ st5 fun b hb o e => (I7.pin (b, o) (List.mem_append_right _ (List.mem_append_right _ (mem_pinsAt hb e)))).1, fun b hb => ?_, w7⟩
      obtain ⟨o, e, d⟩ := T.obj _ _ st5 b hb
      exact (I7.pin (b, o) (List.mem_append_right _ (List.mem_append_right _ (mem_pinsAt hb e)))).2.1
    cases f with
    | next => obtain ⟨σ7, H7, I7, n7⟩ := q7; exact again I7 n7
    | cont => obtain ⟨σ7, H7, I7, n7⟩ := q7; exact again I7 n7
    | brk => obtain ⟨σ7, H7, I7, q7⟩ := q7; exact ⟨σ7, H7, I7.unpinned, q7⟩
    | ret v => obtain ⟨x7, σ7, H7, I7, r7, q7⟩ := q7; exact ⟨x7, σ7, H7, I7.unpinned, r7, q7⟩
end

/-! ### the forms one uses -/
/-- over a list that the body leaves as it is -/
theorem for_list {K : PySem.W.Frag} {a : Addr} {xs : List V} {g : TG} {tb : TS} {D : Ends} {σ : St} {H : Hp} (Pv : Nat → St → Hp → Prop) (h0 : Pv 0 σ H) (hl : ∀ i σ H, i ≤ xs.length → Pv i σ H → SqL K H a xs)
    (hs : ∀ i x σ H, xs[i]? = some x → Pv i σ H → g x σ H fun σ2 H2 => tb { D with nx := Pv (i + 1), ct := Pv (i + 1), bk := D.nx } σ2 H2) (hd : ∀ σ H, Pv xs.length σ H → D.nx σ H) :
    ∃ W : Nat → Nat → St → Hp → Prop, (∃ m, W 0 m σ H) ∧ ∀ i m σ H, W i m σ H →
      ((Itl K a).stop i H ∧ D.nx σ H) ∨ ((Itl K a).go i H ∧ ∃ N : St → Hp → Prop, (∀ σ' H', N σ' H' → ∃ m', m' < m ∧ W (i + 1) m' σ' H') ∧ ∀ x H', (Itl K a).yld i H x H' → g x σ H' fun σ2 H2 => tb { D with nx := N, ct := N, bk := D.nx } σ2 H2) := by
  refine ⟨fun i m σ H => m = xs.length - i ∧ i ≤ xs.length ∧ Pv i σ H, ⟨xs.length, by simp, Nat.zero_le _, h0⟩, ?_⟩
  rintro i m σ H ⟨rfl, hi, p⟩
  have q := hl i σ H hi p
  by_cases hlt : i < xs.length
  · refine .inr ⟨⟨xs, xs[i], q, by simp [hlt]⟩, Pv (i + 1), fun σ' H' p' => ⟨xs.length - (i + 1), by omega, rfl, hlt, p'⟩, fun x H' y => ?_⟩
    obtain ⟨e, y⟩ := y
    subst e
    exact hs i x σ _ (y xs q) p
  · have e : i = xs.length := by omega
    subst e
    exact .inl ⟨⟨xs, q, Nat.le_refl _⟩, hd σ H p⟩
theorem for_tup {K : PySem.W.Frag} {a : Addr} {xs : List V} {g : TG} {tb : TS} {D : Ends} {σ : St} {H : Hp} (Pv : Nat → St → Hp → Prop) (h0 : Pv 0 σ H) (hl : ∀ i σ H, i ≤ xs.length → Pv i σ H → SqT K H a xs)
    (hs : ∀ i x σ H, xs[i]? = some x → Pv i σ H → g x σ H fun σ2 H2 => tb { D with nx := Pv (i + 1), ct := Pv (i + 1), bk := D.nx } σ2 H2) (hd : ∀ σ H, Pv xs.length σ H → D.nx σ H) :
    ∃ W : Nat → Nat → St → Hp → Prop, (∃ m, W 0 m σ H) ∧ ∀ i m σ H, W i m σ H →
      ((Itt K a).stop i H ∧ D.nx σ H) ∨ ((Itt K a).go i H ∧ ∃ N : St → Hp → Prop, (∀ σ' H', N σ' H' → ∃ m', m' < m ∧ W (i + 1) m' σ' H') ∧ ∀ x H', (Itt K a).yld i H x H' → g x σ H' fun σ2 H2 => tb { D with nx := N, ct := N, bk := D.nx } σ2 H2) := by
  refine ⟨fun i m σ H => m = xs.length - i ∧ i ≤ xs.length ∧ Pv i σ H, ⟨xs.length, by simp, Nat.zero_le _, h0⟩, ?_⟩
  rintro i m σ H ⟨rfl, hi, p⟩
  have q := hl i σ H hi p
  by_cases hlt : i < xs.length
  · refine .inr ⟨⟨xs, xs[i], q, by simp [hlt]⟩, Pv (i + 1), fun σ' H' p' => ⟨xs.length - (i + 1), by omega, rfl, hlt, p'⟩, fun x H' y => ?_⟩
    obtain ⟨e, y⟩ := y
    subst e
    exact hs i x σ _ (y xs q) p
  · have e : i = xs.length := by omega
    subst e
    exact .inl ⟨⟨xs, q, Nat.le_refl _⟩, hd σ H p⟩
theorem for_range {lo : Int} {n : Nat} {g : TG} {tb : TS} {D : Ends} {σ : St} {H : Hp} (Pv : Nat → St → Hp → Prop) (h0 : Pv 0 σ H)
    (hs : ∀ i σ H, i < n → Pv i σ H → g (.int (lo + i)) σ H fun σ2 H2 => tb { D with nx := Pv (i + 1), ct := Pv (i + 1), bk := D.nx } σ2 H2) (hd : ∀ σ H, Pv n σ H → D.nx σ H) :
    ∃ W : Nat → Nat → St → Hp → Prop, (∃ m, W 0 m σ H) ∧ ∀ i m σ H, W i m σ H →
      ((Itr lo n).stop i H ∧ D.nx σ H) ∨ ((Itr lo n).go i H ∧ ∃ N : St → Hp → Prop, (∀ σ' H', N σ' H' → ∃ m', m' < m ∧ W (i + 1) m' σ' H') ∧ ∀ x H', (Itr lo n).yld i H x H' → g x σ H' fun σ2 H2 => tb { D with nx := N, ct := N, bk := D.nx } σ2 H2) := by
  refine ⟨fun i m σ H => m = n - i ∧ i ≤ n ∧ Pv i σ H, ⟨n, by simp, Nat.zero_le _, h0⟩, ?_⟩
  rintro i m σ H ⟨rfl, hi, p⟩
  by_cases hlt : i < n
  · refine .inr ⟨hlt, Pv (i + 1), fun σ' H' p' => ⟨n - (i + 1), by omega, rfl, hlt, p'⟩, fun x H' y => ?_⟩
    obtain ⟨e, y⟩ := y
    subst e y
    exact hs i σ _ hlt p
  · have e : i = n := by omega
    subst e
    exact .inl ⟨Nat.le_refl _, hd σ H p⟩
end L2

namespace L2
open PySem PySem.Spec PyProof.Rows

abbrev R2 := V → V → Hp → VK → Prop
/-- a two-place operation on values: f is binaryOp op, inplaceOp op or compareOp op -/
def OpR (X : Cx) (f : Value → Value → Sem Value) (r : R2) : Prop :=
  ∀ (pins : List (Addr × Obj)) (s : Shared) (σ : St) (H : Hp) (x y : V) (v u : Value) (Q : VK), Inv X pins σ H s → RelV x v → RelV y u → r x y H Q →
    wpAny (model X.prog X.w) X.A (f v u) (EP X pins σ Q) X.xe s
/-- a one-place operation -/
def UnR (X : Cx) (f : Value → Sem Value) (r : V → Hp → VK → Prop) : Prop :=
  ∀ (pins : List (Addr × Obj)) (s : Shared) (σ : St) (H : Hp) (x : V) (v : Value) (Q : VK), Inv X pins σ H s → RelV x v → r x H Q →
    wpAny (model X.prog X.w) X.A (f v) (EP X pins σ Q) X.xe s
/-- a call of a value that is known (a builtin, a type) with values -/
def CallR (X : Cx) (f : Value) (r : List V → Hp → VK → Prop) : Prop :=
  ∀ (pins : List (Addr × Obj)) (s : Shared) (σ : St) (H : Hp) (xs : List V) (us : List Value) (Q : VK), Inv X pins σ H s → Vals xs us → r xs H Q →
    wpAny (model X.prog X.w) X.A (call f us) (EP X pins σ Q) X.xe s
/-- a value's truth -/
def TruR (X : Cx) (r : V → Hp → (Bool → Hp → Prop) → Prop) : Prop :=
  ∀ (pins : List (Addr × Obj)) (s : Shared) (σ : St) (H : Hp) (x : V) (v : Value) (Q : Bool → Hp → Prop), Inv X pins σ H s → RelV x v → r x H Q →
    wpAny (model X.prog X.w) X.A (truthy v) (TP X pins σ Q) X.xe s

def tOp (r : R2) (ta tb : TE) : TE := fun σ H Q => ta σ H fun x H1 => tb σ H1 fun y H2 => r x y H2 Q
def tUn (r : V → Hp → VK → Prop) (ta : TE) : TE := fun σ H Q => ta σ H fun x H1 => r x H1 Q
/-- ints in, under C, and a value out -/
def rI (C : Int → Int → Prop) (g : Int → Int → V) : R2 := fun x y H Q => ∃ i j, x = .int i ∧ y = .int j ∧ C i j ∧ Q (g i j) H
def rI0 (g : Int → Int → V) : R2 := fun x y H Q => ∃ i j, x = .int i ∧ y = .int j ∧ Q (g i j) H
def rU (g : Int → V) : V → Hp → VK → Prop := fun x H Q => ∃ i, x = .int i ∧ Q (g i) H

section
variable {X : Cx} {a b c : Expr} {ta tb tc : TE} {pos : Pos}

theorem binT (ha : PE X a ta) (hb : PE X b tb) {pins : List (Addr × Obj)} {s : Shared} {σ : St} {H : Hp} {R : V → V → Hp → Prop} (I : Inv X pins σ H s)
    (h : ta σ H fun x H1 => tb σ H1 fun y H2 => R x y H2) {Q : Value → Shared → Prop} {f : Value → Value → Sem Value}
    (hf : ∀ v u s2 x y H2, Inv X pins σ H2 s2 → RelV x v → RelV y u → R x y H2 → wpAny (model X.prog X.w) X.A (f v u) Q X.xe s2) :
    wpAny (model X.prog X.w) X.A (eval a X.env) (fun v s₁ => wpAny (model X.prog X.w) X.A (eval b X.env) (fun u s₂ => wpAny (model X.prog X.w) X.A (f v u) Q X.xe s₂) X.xe s₁) X.xe s := by
  refine thn (ha pins s σ H _ I h) fun v s1 ⟨x, H1, I1, r1, q1⟩ => ?_
  refine thn (hb pins s1 σ H1 _ I1 q1) fun u s2 ⟨y, H2, I2, r2, q2⟩ => ?_
  exact hf v u s2 x y H2 I2 r1 r2 q2

theorem pe_op {op : Operator} {r : R2} (ho : OpR X (binaryOp op) r) (ha : PE X a ta) (hb : PE X b tb) : PE X (.BinOp a op b pos) (tOp r ta tb) := by
  intro pins s σ H Q I h
  exact wpAny_BinOp (binT ha hb I h fun v u s2 x y H2 I2 rx ry q => ho pins s2 σ H2 x y v u Q I2 rx ry q)
theorem pe_un {op : UnaryOp} {r : V → Hp → VK → Prop} (ho : UnR X (unaryOp op) r) (ha : PE X a ta) : PE X (.UnaryOp op a pos) (tUn r ta) := by
  intro pins s σ H Q I h
  exact UnaryOp_ (thn (ha pins s σ H _ I h) fun v s1 ⟨x, H1, I1, r1, q1⟩ => ho pins s1 σ H1 x v Q I1 r1 q1)

/-! ### ints -/
theorem opI {f : Value → Value → Sem Value} {C : Int → Int → Prop} {g : Int → Int → Int}
    (rule : ∀ (i j : Int) (t u : Tok) (s : Shared) (Q : Value → Shared → Prop) (E : Value → Shared → Prop), C i j → Q (.int (g i j) s.toks) { s with toks := s.toks + 1 } → wpAny (model X.prog X.w) X.A (f (.int i t) (.int j u)) Q E s) :
    OpR X f (rI C fun i j => .int (g i j)) := by
  intro pins s σ H x y v u Q I rx ry h
  obtain ⟨i, j, rfl, rfl, hc, q⟩ := h
  obtain ⟨t, rfl⟩ := rx
  obtain ⟨t', rfl⟩ := ry
  exact rule i j t t' s _ _ hc ⟨.int (g i j), H, I.tok _, ⟨_, rfl⟩, q⟩
theorem opI0 {f : Value → Value → Sem Value} {g : Int → Int → Int}
    (rule : ∀ (i j : Int) (t u : Tok) (s : Shared) (Q : Value → Shared → Prop) (E : Value → Shared → Prop), Q (.int (g i j) s.toks) { s with toks := s.toks + 1 } → wpAny (model X.prog X.w) X.A (f (.int i t) (.int j u)) Q E s) :
    OpR X f (rI0 fun i j => .int (g i j)) := by
  intro pins s σ H x y v u Q I rx ry h
  obtain ⟨i, j, rfl, rfl, q⟩ := h
  obtain ⟨t, rfl⟩ := rx
  obtain ⟨t', rfl⟩ := ry
  exact rule i j t t' s _ _ ⟨.int (g i j), H, I.tok _, ⟨_, rfl⟩, q⟩
theorem opB0 {f : Value → Value → Sem Value} {g : Int → Int → Bool}
    (rule : ∀ (i j : Int) (t u : Tok) (s : Shared) (Q : Value → Shared → Prop) (E : Value → Shared → Prop), Q (.bool (g i j)) s → wpAny (model X.prog X.w) X.A (f (.int i t) (.int j u)) Q E s) :
    OpR X f (rI0 fun i j => .bl (g i j)) := by
  intro pins s σ H x y v u Q I rx ry h
  obtain ⟨i, j, rfl, rfl, q⟩ := h
  obtain ⟨t, rfl⟩ := rx
  obtain ⟨t', rfl⟩ := ry
  exact rule i j t t' s _ _ ⟨.bl (g i j), H, I, rfl, q⟩

def CDiv (i j : Int) : Prop := 0 < j ∧ j < 1073741824
def CDivN (i j : Int) : Prop := j ≠ 0 ∧ j.natAbs < 1073741824
def CPow (i j : Int) : Prop := 0 ≤ j ∧ j ≤ 1000000 ∧ i.natAbs < 2 ^ 64
def CMul (i j : Int) : Prop := (-(2 ^ 64) < i ∧ i < 2 ^ 64) ∨ (-(2 ^ 64) < j ∧ j < 2 ^ 64)
theorem CMul.ok {i j : Int} (h : CMul i j) : IntMulOk i j := by
  rcases h with ⟨h1, h2⟩ | ⟨h1, h2⟩
  · exact .of_left (intBits_le_64 h1 h2)
  · exact .of_right (intBits_le_64 h1 h2)

theorem op_add : OpR X (binaryOp .Add) (rI0 fun i j => .int (i + j)) := opI0 fun _ _ _ _ _ _ _ q => add_int q
theorem op_sub : OpR X (binaryOp .Sub) (rI0 fun i j => .int (i - j)) := opI0 fun _ _ _ _ _ _ _ q => sub_int q
theorem op_mul : OpR X (binaryOp .Mult) (rI CMul fun i j => .int (i * j)) := opI fun _ _ _ _ _ _ _ hc q => mul_int q hc.ok
/-- // by a positive divisor -/
theorem op_fdiv : OpR X (binaryOp .FloorDiv) (rI CDiv fun i j => .int (i / j)) := opI fun i j _ _ _ _ _ hc q => by
  have h1 : (0 : Int) < j := hc.1
  have h2 : j < 1073741824 := hc.2
  exact floordiv_int (by omega) (by rw [Int.fdiv_eq_ediv_of_nonneg i (by omega)]; exact q) (.inl (PyProof.noPylong_small (by omega)))
/-- % by a positive divisor of any size -/
theorem op_mod : OpR X (binaryOp .Mod) (rI (fun _ j => 0 < j) fun i j => .int (i % j)) := opI fun i j _ _ _ _ _ hc q => by
  have h1 : (0 : Int) < j := hc
  exact mod_int' (by omega) (by rw [Int.fmod_eq_emod_of_nonneg i (by omega)]; exact q)


theorem unI {f : Value → Sem Value} {g : Int → Int}
    (rule : ∀ (i : Int) (t : Tok) (s : Shared) (Q : Value → Shared → Prop) (E : Value → Shared → Prop), Q (.int (g i) s.toks) { s with toks := s.toks + 1 } → wpAny (model X.prog X.w) X.A (f (.int i t)) Q E s) :
    UnR X f (rU fun i => .int (g i)) := by
  intro pins s σ H x v Q I rx h
  obtain ⟨i, rfl, q⟩ := h
  obtain ⟨t, rfl⟩ := rx
  exact rule i t s _ _ ⟨.int (g i), H, I.tok _, ⟨_, rfl⟩, q⟩
theorem un_neg : UnR X (unaryOp .USub) (rU fun i => .int (-i)) := unI fun _ _ _ _ _ q => neg_int q

/-! ### bools among ints: n += (a < b) -/
end

/-! ### comparisons -/
/-- the scalars that == tells apart as data does -/
def scal : V → V → Bool
  | .non, .non => true | .non, .int _ => true | .int _, .non => true | .non, .bl _ => true | .bl _, .non => true | .non, .str _ => true | .str _, .non => true
  | .int _, .int _ => true | .bl _, .bl _ => true | .str _, .str _ => true | .byt _, .byt _ => true
  | .int _, .str _ => true | .str _, .int _ => true | .bl _, .str _ => true | .str _, .bl _ => true
  | _, _ => false
def rEq : R2 := fun x y H Q => scal x y = true ∧ Q (.bl (decide (x = y))) H
def rNe : R2 := fun x y H Q => scal x y = true ∧ Q (.bl (!decide (x = y))) H

theorem dec_int {i j : Int} : decide (V.int i = V.int j) = (i == j) := by
  rw [Bool.eq_iff_iff]
  simp
theorem dec_bl {i j : Bool} : decide (V.bl i = V.bl j) = (i == j) := by
  rw [Bool.eq_iff_iff]
  simp
theorem dec_str {i j : Str} : decide (V.str i = V.str j) = (i == j) := by
  rw [Bool.eq_iff_iff]
  simp
theorem dec_byt {i j : Array UInt8} : decide (V.byt i = V.byt j) = (i.toList == j.toList) := by
  rw [Bool.eq_iff_iff]
  cases i
  cases j
  simp

section
variable {X : Cx} {a b c : Expr} {ta tb tc : TE} {pos : Pos}
theorem fin_bl {pins : List (Addr × Obj)} {σ : St} {H : Hp} {s : Shared} {Q : VK} {k k' : Bool} (I : Inv X pins σ H s) (q : Q (.bl k) H) (e : k = k') : EP X pins σ Q (.bool k') s := by
  subst e
  exact ⟨.bl k, H, I, rfl, q⟩
theorem op_eq : OpR X (compareOp .Eq) rEq := by
  intro pins s σ H x y v u Q I rx ry h
  obtain ⟨hs, q⟩ := h
  cases x with
  | non =>
    cases rx
    cases y with
    | non => cases ry; exact PySem.EqNone.eq_none_none (fin_bl I q (by simp))
    | bl j => cases ry; exact PySem.EqNone.eq_none_bool (fin_bl I q (by simp))
    | int j => obtain ⟨t', rfl⟩ := ry; exact PySem.EqNone.eq_none_int (fin_bl I q (by simp))
    | str j => obtain ⟨t', rfl⟩ := ry; exact PySem.EqNone.eq_none_str (fin_bl I q (by simp))
    | _ => exact absurd (show false = true from hs) Bool.false_ne_true
  | bl i =>
    cases rx
    cases y with
    | non => cases ry; exact PySem.EqNone.eq_bool_none (fin_bl I q (by simp))
    | bl j => cases ry; exact eq_bool (fin_bl I q dec_bl)
    | str j => obtain ⟨t', rfl⟩ := ry; exact PySem.EqMixed.eq_bool_str (fin_bl I q (by simp))
    | _ => exact absurd (show false = true from hs) Bool.false_ne_true
  | int i =>
    obtain ⟨t, rfl⟩ := rx
    cases y with
    | non => cases ry; exact PySem.EqNone.eq_int_none (fin_bl I q (by simp))
    | int j => obtain ⟨t', rfl⟩ := ry; exact eq_int (fin_bl I q dec_int)
    | str j => obtain ⟨t', rfl⟩ := ry; exact PySem.EqMixed.eq_int_str (fin_bl I q (by simp))
    | _ => exact absurd (show false = true from hs) Bool.false_ne_true
  | str i =>
    obtain ⟨t, rfl⟩ := rx
    cases y with
    | non => cases ry; exact PySem.EqNone.eq_str_none (fin_bl I q (by simp))
    | bl j => cases ry; exact PySem.EqMixed.eq_str_bool (fin_bl I q (by simp))
    | int j => obtain ⟨t', rfl⟩ := ry; exact PySem.EqMixed.eq_str_int (fin_bl I q (by simp))
    | str j => obtain ⟨t', rfl⟩ := ry; exact eq_str (fin_bl I q dec_str)
    | _ => exact absurd (show false = true from hs) Bool.false_ne_true
  | byt i =>
    obtain ⟨t, rfl⟩ := rx
    cases y with
    | byt j => obtain ⟨t', rfl⟩ := ry; exact PySem.W.eq_bytes (fin_bl I q dec_byt)
    | _ => exact absurd (show false = true from hs) Bool.false_ne_true
  | _ => cases y <;> exact absurd (show false = true from hs) Bool.false_ne_true
theorem op_ne : OpR X (compareOp .NotEq) rNe := by
  intro pins s σ H x y v u Q I rx ry h
  obtain ⟨hs, q⟩ := h
  cases x with
  | non =>
    cases rx
    cases y with
    | non => cases ry; exact PySem.EqNone.ne_none_none (fin_bl I q (by simp))
    | bl j => cases ry; exact PySem.EqNone.ne_none_bool (fin_bl I q (by simp))
    | int j => obtain ⟨t', rfl⟩ := ry; exact PySem.EqNone.ne_none_int (fin_bl I q (by simp))
    | str j => obtain ⟨t', rfl⟩ := ry; exact PySem.EqNone.ne_none_str (fin_bl I q (by simp))
    | _ => exact absurd (show false = true from hs) Bool.false_ne_true
  | bl i =>
    cases rx
    cases y with
    | non => cases ry; exact PySem.EqNone.ne_bool_none (fin_bl I q (by simp))
    | bl j => cases ry; exact ne_bool (fin_bl I q (congrArg not dec_bl))
    | str j => obtain ⟨t', rfl⟩ := ry; exact PySem.EqMixed.ne_bool_str (fin_bl I q (by simp))
    | _ => exact absurd (show false = true from hs) Bool.false_ne_true
  | int i =>
    obtain ⟨t, rfl⟩ := rx
    cases y with
    | non => cases ry; exact PySem.EqNone.ne_int_none (fin_bl I q (by simp))
    | int j => obtain ⟨t', rfl⟩ := ry; exact ne_int (fin_bl I q (congrArg not dec_int))
    | str j => obtain ⟨t', rfl⟩ := ry; exact PySem.EqMixed.ne_int_str (fin_bl I q (by simp))
    | _ => exact absurd (show false = true from hs) Bool.false_ne_true
  | str i =>
    obtain ⟨t, rfl⟩ := rx
    cases y with
    | non => cases ry; exact PySem.EqNone.ne_str_none (fin_bl I q (by simp))
    | bl j => cases ry; exact PySem.EqMixed.ne_str_bool (fin_bl I q (by simp))
    | int j => obtain ⟨t', rfl⟩ := ry; exact PySem.EqMixed.ne_str_int (fin_bl I q (by simp))
    | str j => obtain ⟨t', rfl⟩ := ry; exact ne_str (fin_bl I q (congrArg not dec_str))
    | _ => exact absurd (show false = true from hs) Bool.false_ne_true
  | byt i =>
    obtain ⟨t, rfl⟩ := rx
    cases y with
    | byt j => obtain ⟨t', rfl⟩ := ry; exact PySem.W.ne_bytes (fin_bl I q (congrArg not dec_byt))
    | _ => exact absurd (show false = true from hs) Bool.false_ne_true
  | _ => cases y <;> exact absurd (show false = true from hs) Bool.false_ne_true

theorem op_lt : OpR X (compareOp .Lt) (rI0 fun i j => .bl (decide (i < j))) := opB0 fun _ _ _ _ _ _ _ q => lt_int q
theorem op_le : OpR X (compareOp .LtE) (rI0 fun i j => .bl (decide (i ≤ j))) := opB0 fun _ _ _ _ _ _ _ q => le_int q
theorem op_gt : OpR X (compareOp .Gt) (rI0 fun i j => .bl (decide (j < i))) := opB0 fun _ _ _ _ _ _ _ q => gt_int q
theorem op_ge : OpR X (compareOp .GtE) (rI0 fun i j => .bl (decide (j ≤ i))) := opB0 fun _ _ _ _ _ _ _ q => ge_int q


/-- is, is not of two objects that are tracked lists or instances -/
def isObj : HO → Bool
  | .lst _ => true
  | .ins _ _ _ => true
  | _ => false


theorem nomark (b : Expr) {op : CmpOp} (h : op ≠ .In := by decide) (h2 : op ≠ .NotIn := by decide) : behindInMarks op b = false := by
  have e1 : (op == CmpOp.In) = false := by cases op <;> first | rfl | exact absurd rfl h
  have e2 : (op == CmpOp.NotIn) = false := by cases op <;> first | rfl | exact absurd rfl h2
  cases b <;> simp [behindInMarks, e1, e2]
/-- a comparison as a value; hm: nomark b, or (for in, not in) by with_unfolding_all rfl -/
theorem pe_cmpR {op : CmpOp} {r : R2} (ho : OpR X (compareOp op) r) (ha : PE X a ta) (hb : PE X b tb) (hm : behindInMarks op b = false) : PE X (.Compare a [op] [b] pos) (tOp r ta tb) := by
  intro pins s σ H Q I h
  exact wpAny_Compare1 (binT ha hb I h fun v u s2 x y H2 I2 rx ry q => ho pins s2 σ H2 x y v u Q I2 rx ry q) hm
/-- a reading of a value as a test -/
def tTest (t : TE) : TT := fun σ H Q => t σ H fun x H' => ∃ k, x = .bl k ∧ Q k H'
theorem pt_cmpR {op : CmpOp} {r : R2} (ho : OpR X (compareOp op) r) (ha : PE X a ta) (hb : PE X b tb) (hm : behindInMarks op b = false) : PT X (.Compare a [op] [b] pos) (tTest (tOp r ta tb)) := by
  intro pins s σ H Q I h
  refine wpAny_isTrue_Compare1 (thn (ha pins s σ H _ I h) fun v s1 ⟨x, H1, I1, r1, q1⟩ => thn (hb pins s1 σ H1 _ I1 q1) fun u s2 ⟨y, H2, I2, r2, q2⟩ =>
    thn (ho pins s2 σ H2 x y v u _ I2 r1 r2 q2) fun c s3 ⟨z, H3, I3, r3, k, e, q3⟩ => ?_) hm
  subst e
  cases r3
  exact wpAny_truthy_bool ⟨H3, I3, q3⟩
/-- a op1 b op2 c -/
def tChain (r r' : R2) (ta tb tc : TE) : TE := fun σ H Q => ta σ H fun x H1 => tb σ H1 fun y H2 => r x y H2 fun z H3 => ∃ k, z = .bl k ∧
  (if k = true then tc σ H3 fun w' H4 => r' y w' H4 Q else Q (.bl false) H3)
theorem pt_chain {op op' : CmpOp} {r r' : R2} (ho : OpR X (compareOp op) r) (ho' : OpR X (compareOp op') r') (ha : PE X a ta) (hb : PE X b tb) (hc : PE X c tc)
    (hm : lastMarks [op, op'] [b, c] = false := by with_unfolding_all rfl) : PT X (.Compare a [op, op'] [b, c] pos) (tTest (tChain r r' ta tb tc)) := by
  intro pins s σ H Q I h
  refine isTrue_chain (thn (ha pins s σ H _ I h) fun v s1 ⟨x, H1, I1, r1, q1⟩ => test_link (thn (hb pins s1 σ H1 _ I1 q1) fun u s2 ⟨y, H2, I2, r2, q2⟩ =>
    thn (ho pins s2 σ H2 x y v u _ I2 r1 r2 q2) fun d s3 ⟨z, H3, I3, r3, k, e, q3⟩ => ?_)) hm
  subst e
  cases r3
  refine wpAny_truthy_bool ?_
  cases k with
  | false =>
    obtain ⟨k', e', q'⟩ := q3
    cases e'
    exact ite_ff ⟨H3, I3, q'⟩
  | true =>
    refine ite_tt (test_last (thn (hc pins s3 σ H3 _ I3 q3) fun w' s4 ⟨z', H4, I4, r4, q4⟩ => thn (ho' pins s4 σ H4 y z' u w' _ I4 r2 r4 q4) fun d' s5 ⟨z2, H5, I5, r5, k2, e2, q5⟩ => ?_))
    subst e2
    cases r5
    exact wpAny_truthy_bool ⟨H5, I5, q5⟩

/-! ### truth -/
/-- a value's truth by the abstract heap -/
def TruV (K : PySem.W.Frag) (x : V) (H : Hp) (k : Bool) : Prop :=
  match x with
  | .non => k = false
  | .bl b => k = b
  | .int i => k = (i != 0)
  | .str y => y.length ≤ sizeLine ∧ k = ((y.length : Int) != 0)
  | .byt y => y.size ≤ sizeLine ∧ k = ((y.size : Int) != 0)
  | .ref p => (∃ xs, SqL K H p xs ∧ k = !xs.isEmpty) ∨ (∃ xs, SqT K H p xs ∧ k = !xs.isEmpty) ∨ ∃ kvs, H p = some (.dK kvs) ∧ k = !kvs.isEmpty
  | _ => False
theorem line63 : (sizeLine : Nat) < 2 ^ 63 := by rw [sizeLine_eq]; decide

/-! ### strs and bytes -/
theorem op_add_str : OpR X (binaryOp .Add) (fun x y H Q => ∃ i j, x = .str i ∧ y = .str j ∧ i.length + j.length ≤ sizeLine ∧ Q (.str (i ++ j)) H) := by
  intro pins s σ H x y v u Q I rx ry h
  obtain ⟨i, j, rfl, rfl, hz, q⟩ := h
  obtain ⟨t, rfl⟩ := rx
  obtain ⟨t', rfl⟩ := ry
  exact add_str (fun t' tk => ⟨.str (i ++ j), H, I.tok _, ⟨_, rfl⟩, q⟩) hz

def PlainIxT (b : Expr) : Prop := ∀ o i, subscripted b false o i = operate [o, i] (getItem o i)

/-! ### scalar builtins, by CallR -/
theorem vals1 {x : V} {us : List Value} (r : Vals [x] us) : ∃ u, us = [u] ∧ RelV x u := by
  cases r with
  | cons r1 r2 => cases r2; exact ⟨_, rfl, r1⟩
theorem call_str_int : CallR X (.type "str") (fun xs H Q => ∃ i, xs = [.int i] ∧ i.natAbs.log2 < 1920 ∧ Q (.str (toString i)) H) := by
  intro pins s σ H xs us Q I r h
  obtain ⟨i, rfl, hz, q⟩ := h
  obtain ⟨u, rfl, t, rfl⟩ := vals1 r
  exact PySem.P.str_of_int hz ⟨.str _, H, I.tok _, ⟨_, rfl⟩, q⟩
/-- len of a str, a bytes, a list, a tuple -/
def LenV (K : PySem.W.Frag) (x : V) (H : Hp) (n : Nat) : Prop :=
  match x with
  | .str y => y.length ≤ sizeLine ∧ n = y.length
  | .byt y => y.size ≤ sizeLine ∧ n = y.size
  | .ref p => (∃ xs, SqL K H p xs ∧ n = xs.length) ∨ ∃ xs, SqT K H p xs ∧ n = xs.length
  | _ => False
end
end L2

namespace L2
open PySem PySem.Spec PyProof.Rows

/-! ### an instance, its attributes a map -/
structure ObjM (h : Heap) (x dx C : Addr) (mA : Str → Option Value) : Prop where
  obj : h.get? x = some (PySem.W.instObj C dx)
  ns : h.Ns1 dx mA
  ne : dx ≠ x

theorem lookIn_ns {h : Heap} {dx : Addr} {mA : Str → Option Value} (n : h.Ns1 dx mA) : ∃ od, h.get? dx = some od ∧ ∀ name, PySem.W.lookIn name od = some (mA name) := by
  obtain ⟨o, es, ep, ho, hd, hk, _, hm⟩ := n
  refine ⟨o, ho, fun name => ?_⟩
  have e := hm name
  unfold nsFind findBy at e
  rw [← Array.find?_toList] at e
  unfold PySem.W.lookIn
  rw [hd]
  dsimp only
  split
  · rename_i y q
    rw [q] at e
    exact congrArg some e
  · rename_i q
    rw [q] at e
    have a : es.toList.any (·.refKey) = false := by
      rw [List.any_eq_false]
      intro y hy
      obtain ⟨z, t, hkey⟩ := hk y (Array.mem_toList_iff.mp hy)
      simp [DictEntry.refKey, hkey]
    have a' : ¬ es.toList.any (·.refKey) = true := by rw [a]; exact Bool.false_ne_true
    rw [if_neg a']
    exact congrArg some e

theorem ObjM.look {h : Heap} {x dx C : Addr} {mA : Str → Option Value} (I : ObjM h x dx C mA) : ∃ od, PySem.W.InstAt h x (PySem.W.instObj C dx) C (some od) ∧ ∀ name, PySem.W.lookIn name od = some (mA name) :=
  let ⟨od, ho, hl⟩ := lookIn_ns I.ns
  ⟨od, ⟨I.obj, rfl, rfl, ho⟩, hl⟩

section
variable {prog : Program} {w : World} {A : Around} {E : Value → Shared → Prop} {s : Shared} {K : PySem.W.Frag} {x dx C f : Addr} {mA : Str → Option Value} {name : Str} {v : Value}





end

/-! ### the attributes as a list of pairs -/
def putF (f : Str) (v : V) : List (Str × V) → List (Str × V)
  | [] => [(f, v)]
  | (g, x) :: r => if g = f then (g, v) :: r else (g, x) :: putF f v r


section
variable {P : Program} {w : World} {H H' : Hp} {h h' : Heap} {a C dx : Addr} {fs fs' : List (Str × V)}
theorem ins_get (hok : HOk P w H h) (e : H a = some (.ins C dx fs)) : ∃ mA, ObjM h a dx C mA ∧ (∀ f, RelO (fs.lookup f) (mA f)) ∧ PySem.Within mA (fs.map (·.1)) ∧ fs.length ≤ 1000 ∧ H dx = some (.own a) := by
  obtain ⟨d, z, ne, ob, mA, n, r, q⟩ := (show ObjOk P w H h a (.ins C dx fs) from hok a _ e)
  exact ⟨mA, ⟨ob, n, ne⟩, r, q, z, d⟩
end

/-! ### what of the text a class must have -/
structure Cls (K : PySem.W.Frag) (C : Addr) : Prop where
  pg : PySem.W.plainGet K C Str.empty = true
  hd : PySem.W.hasDictIn K C = true
  po : PySem.W.plainOver K C = true
  sa : PySem.W.findIn K (.ref C) "__setattr__" = some (some (.builtin "object.__setattr__"))
theorem Cls.get {K : PySem.W.Frag} {C : Addr} (c : Cls K C) (f : Str) : PySem.W.plainGet K C f = true := c.pg
/-- no class of it has the name -/
def NoAttr (K : PySem.W.Frag) (C : Addr) (f : Str) : Prop := PySem.W.findIn K (.ref C) f = some none
/-- a constant of the class -/
structure Con (K : PySem.W.Frag) (C : Addr) (f : Str) (v : V) (u : Value) : Prop where
  at_ : PySem.W.findIn K (.ref C) f = some (some u)
  rel : RelV v u
  get : PySem.W.specialIn K u "__get__" = some none
  cp : PySem.W.copiedNames.contains f = false
/-- a method: a plain def of the class or of one above it -/
structure Meth (K : PySem.W.Frag) (C : Addr) (m : Str) (f : Addr) : Prop where
  at_ : PySem.W.findIn K (.ref C) m = some (some (.ref f))
  fn : PySem.W.isFn K (.ref f) = true
  kp : PySem.W.keepIn K (.ref f) = true

section
variable {X : Cx} {pins : List (Addr × Obj)} {σ : St} {H : Hp} {s : Shared} {a C dx : Addr} {fs : List (Str × V)} {f : Str} {v : V} {A : Around} {E : Value → Shared → Prop}






end

/-! ### readings and rules -/
/-- e.f, an attribute of the instance -/
def tFld (K : PySem.W.Frag) (ta : TE) (f : Str) : TE := fun σ H Q => ta σ H fun x H1 => ∃ a C dx fs v, x = .ref a ∧ H1 a = some (.ins C dx fs) ∧ Cls K C ∧ NoAttr K C f ∧ fs.lookup f = some v ∧ Q v H1
/-- e.f, a constant of the class -/
def tCon (K : PySem.W.Frag) (ta : TE) (f : Str) : TE := fun σ H Q => ta σ H fun x H1 => ∃ a C dx fs v u, x = .ref a ∧ H1 a = some (.ins C dx fs) ∧ Cls K C ∧ Con K C f v u ∧ fs.lookup f = none ∧ Q v H1
/-- e.f = value -/
def sFld (K : PySem.W.Frag) (ta tv : TE) (f : Str) : TS := fun D σ H => tv σ H fun y H1 => ta σ H1 fun x H2 => ∃ a C dx fs, x = .ref a ∧ H2 a = some (.ins C dx fs) ∧ Cls K C ∧ NoAttr K C f ∧ fs.length < 1000 ∧
  D.nx σ (upd H2 a (.ins C dx (putF f y fs)))
/-- an augmented operator on two values -/
def InOp (X : Cx) (op : Operator) (rd : V → V → Hp → VK → Prop) : Prop :=
  ∀ (pins : List (Addr × Obj)) (s : Shared) (σ : St) (H : Hp) (x y : V) (u v : Value) (Q : VK), Inv X pins σ H s → RelV x u → RelV y v → rd x y H Q → wpAny (model X.prog X.w) X.A (inplaceOp op u v) (EP X pins σ Q) X.xe s
/-- e.f op= value -/
def sFldAug (K : PySem.W.Frag) (ta tv : TE) (rd : V → V → Hp → VK → Prop) (f : Str) : TS := fun D σ H => ta σ H fun x H1 => ∃ a C dx fs v, x = .ref a ∧ H1 a = some (.ins C dx fs) ∧ Cls K C ∧ NoAttr K C f ∧ fs.lookup f = some v ∧
  tv σ H1 fun y H2 => rd v y H2 fun z H3 => ∃ dx' fs', H3 a = some (.ins C dx' fs') ∧ fs'.length < 1000 ∧ D.nx σ (upd H3 a (.ins C dx' (putF f z fs')))

section
variable {X : Cx} {o e value : Expr} {f : Str} {pos pos' tpos : Pos} {ta tv : TE}
def rAdd : V → V → Hp → VK → Prop := fun x y H Q => ∃ i j, x = .int i ∧ y = .int j ∧ Q (.int (i + j)) H
def rSub : V → V → Hp → VK → Prop := fun x y H Q => ∃ i j, x = .int i ∧ y = .int j ∧ Q (.int (i - j)) H

end

/-! ### isinstance -/
section
variable {X : Cx} {pins : List (Addr × Obj)} {σ : St} {H : Hp} {s : Shared} {A : Around} {E : Value → Shared → Prop} {Q : Value → Shared → Prop} {c : Value} {b : Bool}
/-- the type of a value, as the fragment's deciders take it; for an instance its class -/
inductive TyOf (K : PySem.W.Frag) (H : Hp) : V → Value → Prop where
  | non : TyOf K H .non (.type "NoneType")
  | bl (x : Bool) : TyOf K H (.bl x) (.type "bool")
  | int (i : Int) : TyOf K H (.int i) (.type "int")
  | str (x : Str) : TyOf K H (.str x) (.type "str")
  | flt (x : UInt64) : TyOf K H (.flt x) (.type "float")
  | lst {a : Addr} {xs : List V} (e : H a = some (.lst xs)) : TyOf K H (.ref a) (.type "list")
  | frz {a : Addr} {o : Obj} {xs : List V} (e : H a = some (.frz o (.lst xs))) : TyOf K H (.ref a) (.type "list")
  | tup {a : Addr} {xs : List V} (e : H a = some (.tup xs)) : TyOf K H (.ref a) (.type "tuple")
  | dK {a : Addr} {kvs : List (Key × V)} (e : H a = some (.dK kvs)) : TyOf K H (.ref a) (.type "dict")
  | dT {a : Addr} {kvs : List (List Key × V)} (e : H a = some (.dT kvs)) : TyOf K H (.ref a) (.type "dict")
  | ins {a C dx : Addr} {fs : List (Str × V)} (e : H a = some (.ins C dx fs)) (cl : Cls K C) (ha : PySem.W.findIn K (.ref C) "__class__" = some (some (.builtin "object.__class__")))
      (hn : PySem.W.specialIn K (.builtin "object.__class__") "__get__" = some (some (.builtin "getset_descriptor.__get__"))) (htk : PySem.W.takesIn K (.builtin "object.__class__") = some true)
      (hm : PySem.W.mroIn K C (.type "object") = some true) : TyOf K H (.ref a) (.ref C)
/-- isinstance(x, c) for one class c, a built-in or an own one: kitOne's answer -/
theorem isinst_ok {x : V} {u t : Value} (I : Inv X pins σ H s) (rx : RelV x u) (ty : TyOf X.K H x t) (e : PySem.W.kitOne X.K t c = some b) (h : ∀ tk, Q (.bool b) { s with toks := tk }) :
    wpAny (model X.prog X.w) A (call (.builtin "isinstance") [u, c]) Q E s := by
  cases ty with
  | non => cases (show u = Value.none from rx); exact PySem.W.kia_one PySem.W.kitx_none I.kIn True.intro e (fun z => nomatch z) h
  | bl y => cases (show u = Value.bool y from rx); exact PySem.W.kia_one PySem.W.kitx_bool I.kIn True.intro e (fun z => nomatch z) h
  | int i => obtain ⟨t, q⟩ := (show ∃ t, u = Value.int i t from rx); cases q; exact PySem.W.kia_one PySem.W.kitx_int I.kIn True.intro e (fun z => nomatch z) h
  | str y => obtain ⟨t, q⟩ := (show ∃ t, u = Value.str y t from rx); cases q; exact PySem.W.kia_one PySem.W.kitx_str I.kIn True.intro e (fun z => nomatch z) h
  | flt y => obtain ⟨t, q⟩ := (show ∃ t, u = Value.float y t from rx); cases q; exact PySem.W.kia_one PySem.W.kitx_float I.kIn True.intro e (fun z => nomatch z) h
  | @lst a xs ea =>
    cases (show u = Value.ref a from rx)
    obtain ⟨_, _, n, _, h1⟩ := (show ObjOk X.prog X.w H s.heap a (.lst xs) from I.hok a _ ea)
    exact PySem.W.kia_one PySem.W.kitx_list I.kIn ⟨_, h1, rfl⟩ e (fun z => nomatch z) h
  | @frz a ob xs ea =>
    cases (show u = Value.ref a from rx)
    obtain ⟨_, _, _, n, _, h1⟩ := (show ObjOk X.prog X.w H s.heap a (.frz ob (.lst xs)) from I.hok a _ ea)
    exact PySem.W.kia_one PySem.W.kitx_list I.kIn ⟨_, h1, rfl⟩ e (fun z => nomatch z) h
  | @tup a xs ea =>
    cases (show u = Value.ref a from rx)
    obtain ⟨_, _, _, p⟩ := (show ObjOk X.prog X.w H s.heap a (.tup xs) from I.hok a _ ea)
    obtain ⟨o, h1, h2, _⟩ := p
    exact PySem.W.kia_one PySem.W.kitx_tuple I.kIn ⟨o, h1, h2⟩ e (fun z => nomatch z) h
  | @dK a kvs ea =>
    cases (show u = Value.ref a from rx)
    obtain ⟨_, _, vs, _, p⟩ := (show ObjOk X.prog X.w H s.heap a (.dK kvs) from I.hok a _ ea)
    obtain ⟨o, es, ep, h1, h2, _⟩ := p
    exact PySem.W.kia_one PySem.W.kitx_dict I.kIn ⟨o, h1, h2.1⟩ e (fun z => nomatch z) h
  | @dT a kvs ea =>
    cases (show u = Value.ref a from rx)
    obtain ⟨_, _, xs, _, o, es, ep, h1, h2, _⟩ := (show ObjOk X.prog X.w H s.heap a (.dT kvs) from I.hok a _ ea)
    exact PySem.W.kia_one PySem.W.kitx_dict I.kIn ⟨o, h1, h2.1⟩ e (fun z => nomatch z) h
  | @ins a C dx fs ea cl ha hn htk hm =>
    cases (show u = Value.ref a from rx)
    obtain ⟨mA, O, _⟩ := ins_get I.hok ea
    obtain ⟨od, J, _⟩ := O.look
    exact PySem.W.kia_one (PySem.W.kitx_own (cl.get _) cl.hd ha hn htk hm) I.kIn J e (fun z => nomatch z) h
end
end L2

namespace L2
open PySem PySem.Spec PyProof.Rows

/-! ### room -/
structure Room (k : Nat) (A : Around) : Prop where
  hd : A.handled = none
  dp : A.depth + 3 * k + 5 < recursionLimit
  un : A.units + 16 * k + 200 < cLine
theorem Room.mono {j k : Nat} {A : Around} (r : Room k A) (h : j ≤ k) : Room j A := ⟨r.hd, by have := r.dp; omega, by have := r.un; omega⟩
theorem Room.deeper {k : Nat} {A : Around} (r : Room (k + 1) A) (env : Env) : Room k (A.deeper env) :=
  ⟨r.hd, by have := r.dp; show A.depth + 1 + 3 * k + 5 < _; omega, by have := r.un; show A.units + 3 + 16 * k + 200 < _; omega⟩
theorem Room.depth {k : Nat} {A : Around} (r : Room k A) : A.depth < recursionLimit := by have := r.dp; omega
theorem Room.units {k : Nat} {A : Around} (r : Room k A) : A.units + 64 < cLine := by have := r.un; omega

/-! ### argument lists and displays -/
def tNil : TA := fun _ H Q => Q [] H
def tCons (ta : TE) (tr : TA) : TA := fun σ H Q => ta σ H fun x H1 => tr σ H1 fun xs H2 => Q (x :: xs) H2
section
variable {X : Cx} {e : Expr} {es : List Expr} {te : TE} {t : TA} {pos : Pos}
theorem pa_nil : PA X [] tNil := fun _ _ _ _ H Q I h => Calls.spliced_nil ⟨[], H, I, .nil, h⟩
theorem pa_cons (ha : PE X e te) (hr : PA X es t) (hs : starEach (e :: es) X.env = (false, eval e X.env) :: starEach es X.env := by rfl) : PA X (e :: es) (tCons te t) := by
  intro pos pins s σ H Q I h
  rw [hs]
  show wpAny _ _ (spliced ((false, eval e X.env) :: backTo pos (starEach es X.env))) _ _ s
  refine Calls.spliced_cons (thn (ha pins s σ H _ I h) fun u s1 ⟨x, H1, I1, r1, q1⟩ => ?_)
  exact thn (hr pos pins s1 σ H1 _ I1 q1) fun us s2 ⟨xs, H2, I2, r2, q2⟩ => ⟨x :: xs, H2, I2, .cons r1 r2, q2⟩

/-- a tuple, a list of written items -/
def tTup (t : TA) : TE := fun σ H Q => t σ H fun xs H1 => xs.length ≤ sizeLine ∧ ∀ p, H1 p = none → Q (.ref p) (upd H1 p (.tup xs))
def tLst (t : TA) : TE := fun σ H Q => t σ H fun xs H1 => xs.length ≤ sizeLine ∧ ∀ p, H1 p = none → Q (.ref p) (upd H1 p (.lst xs))
theorem pe_tup {x1} (h : PA X es t) : PE X (.Tuple es x1 pos) (tTup t) := by
  intro pins s σ H Q I hq
  refine wpAny_Tuple_spliced (thn (h pos pins s σ H _ I hq) fun us s1 ⟨xs, H1, I1, r, z, q⟩ => ⟨by rw [← r.length]; exact z, ?_⟩)
  have hf : H1 s1.heap.objs.size = none := I1.hok.fresh (Nat.le_refl _)
  refine ⟨.ref s1.heap.objs.size, upd H1 s1.heap.objs.size (.tup xs), I1.laid (t' := s1.toks) (fun b u e => Heap.get?_push_of_some _ e) (Nat.le_refl _) ?_, rfl, q _ hf⟩
  exact ⟨z, us, r, ⟨_, Heap.get?_push_size _ rfl, rfl, _, rfl⟩⟩
theorem pe_lst (h : PA X es t) : PE X (.List es pos) (tLst t) := by
  intro pins s σ H Q I hq
  refine wpAny_List_spliced (thn (h pos pins s σ H _ I hq) fun us s1 ⟨xs, H1, I1, r, z, q⟩ => ⟨by rw [← r.length]; exact z, ?_⟩)
  have hf : H1 s1.heap.objs.size = none := I1.hok.fresh (Nat.le_refl _)
  refine ⟨.ref s1.heap.objs.size, upd H1 s1.heap.objs.size (.lst xs), I1.laid (t' := s1.toks) (fun b u e => Heap.get?_push_of_some _ e) (Nat.le_refl _) ?_, rfl, q _ hf⟩
  exact ⟨z, us, 0, r, Heap.get?_push_size _ rfl⟩
end

/-! ### what a def promises -/
/-- a def's promise: the bound arguments in the parameters' order, the heap, the wanted end, the wanted exception -/
abbrev Sp := List V → Hp → VK → XK → Prop
/-- how an exception lies behind a call (file 08 gives it): the callers' frames, abstract heap and state ahead of the call, the wish, the exception, the state -/
abbrev CXT := List Env → Hp → Shared → XK → Value → Shared → Prop

/-- the state at a call -/
structure Env0 (P : Program) (w : World) (K : PySem.W.Frag) (mg : Str → Option Value) (base : Heap) (A : Around) (outer : List Env) (s : Shared) (H : Hp) : Prop where
  frames : A.frames = some outer
  mod : Mod K mg base
  bs : ∀ b o, base.get? b = some o → s.heap.get? b = some o ∧ H b = none
  bsz : base.objs.size ≤ s.heap.objs.size
  funs : s.heap.FunFrames base outer
  frf : ∀ b ∈ frs outer, H b = none
  hok : HOk P w H s.heap
  bare : AllBare s.gens
/-- a call's end -/
def CE (outer : List Env) (P : Program) (w : World) (H : Hp) (s : Shared) (Q : VK) (u : Value) (s' : Shared) : Prop :=
  ∃ v H', s'.os = s.os ∧ AllBare s'.gens ∧ Un (frs outer) [] H H' s.heap s'.heap ∧ HOk P w H' s'.heap ∧ RelV v u ∧ Q v H'
def CR (CX : CXT) (outer : List Env) (P : Program) (w : World) (H : Hp) (s : Shared) (Q : VK) (E : XK) (r : Result) (s' : Shared) : Prop :=
  match r with
  | .ok (.ret u) => CE outer P w H s Q u s'
  | .ok _ => False
  | .error e => CX outer H s E e s'
structure FnOk (P : Program) (w : World) (K : PySem.W.Frag) (mg : Str → Option Value) (base : Heap) (CX : CXT) (k : Nat) (f : Addr) (fd : FuncData) (ps : List Str) (sp : Sp) : Prop where
  len : ∀ vs H Q E, sp vs H Q E → vs.length = ps.length
  run : ∀ (A : Around) (outer : List Env) (s : Shared) (H : Hp) (args : Args) (us : List Value) (vs : List V) (Q : VK) (E : XK), Room k A → Env0 P w K mg base A outer s H → BindsTo s fd args (ps.zip us) → Vals vs us → sp vs H Q E →
    codeAny (model P w) A (.call (.ref f) args) (CR CX outer P w H s Q E) s
theorem FnOk.mono {P : Program} {w : World} {K : PySem.W.Frag} {mg : Str → Option Value} {base : Heap} {CX : CXT} {j k : Nat} {f : Addr} {fd : FuncData} {ps : List Str} {sp : Sp} (F : FnOk P w K mg base CX j f fd ps sp) (h : j ≤ k) :
    FnOk P w K mg base CX k f fd ps sp := ⟨F.len, fun A outer s H args us vs Q E hr => F.run A outer s H args us vs Q E (hr.mono h)⟩


section
variable {X : Cx} {pins : List (Addr × Obj)} {σ : St} {H : Hp} {s s' : Shared}
/-- from a body: what a callee wants -/
theorem Inv.env0 (I : Inv X pins σ H s) : Env0 X.prog X.w X.K X.mg X.base X.A X.stack s H :=
  ⟨I.ok.frames, I.ok.mod, I.bs, Nat.le_trans I.ok.bsz I.sz, I.stack, I.stkFree, I.hok, I.bare⟩
/-- behind a call -/
theorem Inv.after {Q : VK} {u : Value} (I : Inv X pins σ H s) (h : CE X.stack X.prog X.w H s Q u s') : EP X pins σ Q u s' := by
  obtain ⟨v, H', os, bare, un, hok, r, q⟩ := h
  obtain ⟨hh, g, d, t, os'⟩ := s'
  obtain rfl : os' = s.os := os
  exact ⟨v, H', I.call (h' := hh) (g' := g) (d' := d) (t' := t) (ch := []) un hok bare (fun b z => absurd z (by simp)), r, q⟩
end

/-! ### calls -/
/-- f(..): the written arguments, then the defaults dvs; E: what is wanted of an exception -/
def tCall (sp : Sp) (dvs : List V) (E : XK) (t : TA) : TE := fun σ H Q => t σ H fun vs H1 => sp (vs ++ dvs) H1 Q E
/-- o.m(..) of an instance of the class at C -/
def tMeth (C : Addr) (m : Str) (sp : Sp) (dvs : List V) (E : XK) (ta : TE) (t : TA) : TE := fun σ H Q => ta σ H fun x H1 => ∃ a dx fs, x = .ref a ∧ H1 a = some (.ins C dx fs) ∧ fs.lookup m = none ∧
  t σ H1 fun vs H2 => sp (x :: (vs ++ dvs)) H2 Q E
/-- C(..): a new instance and its dict, then __init__ -/
def tMake (C : Addr) (sp : Sp) (dvs : List V) (E : XK) (t : TA) : TE := fun σ H Q => t σ H fun vs H1 => ∀ x dx, H1 x = none → H1 dx = none → dx ≠ x →
  sp (.ref x :: (vs ++ dvs)) (upd (upd H1 dx (.own x)) x (.ins C dx [])) (fun v H2 => v = .non ∧ Q (.ref x) H2) E

/-- how the parameters are bound: us the positional arguments, kw the keywords' values by name, ds the defaults that fill up -/
def Binds (K : PySem.W.Frag) (fd : FuncData) (ps : List Str) (ds : List Value) : Prop :=
  ∀ (s : Shared) (us : List Value), K.In s.heap → (us ++ ds).length = ps.length → BindsTo s fd ⟨us, []⟩ (ps.zip (us ++ ds))
/-- every parameter is given -/
theorem Binds.all {K : PySem.W.Frag} {fd : FuncData} {ps : List Str} (h : ∀ us : List Value, us.length = ps.length → bindArgs fd ⟨us, []⟩ = pure (ps.zip us)) : Binds K fd ps [] := fun s us _ hl => by
  rw [List.append_nil] at hl ⊢
  exact .of_eq (h us hl)

/-- an exception of a callee reaches what this body wants of exceptions -/
def Passes (CX : CXT) (X : Cx) (E : XK) : Prop := ∀ (pins : List (Addr × Obj)) (σ : St) (H : Hp) (s : Shared) (e : Value) (s' : Shared), Inv X pins σ H s → CX X.stack H s E e s' → X.xe e s'

section
variable {X : Cx} {CX : CXT} {k : Nat} {f C : Addr} {fd : FuncData} {ps : List Str} {sp : Sp} {dvs : List V} {ds : List Value} {E : XK} {x m : Str} {p pos apos : Pos} {e o : Expr} {es : List Expr} {ta : TE} {t : TA}

/-- the callee runs -/
theorem run_fn {pins : List (Addr × Obj)} {σ : St} {H : Hp} {s : Shared} {Q : VK} {us : List Value} {vs : List V} (F : FnOk X.prog X.w X.K X.mg X.base CX k f fd ps sp) (hr : Room k X.A) (hb : Binds X.K fd ps ds) (hd : Vals dvs ds) (hx : Passes CX X E)
    (I : Inv X pins σ H s) (r : Vals vs us) (h : sp (vs ++ dvs) H Q E) : wpAny (model X.prog X.w) X.A (call (.ref f) us) (EP X pins σ Q) X.xe s := by
  have r2 : Vals (vs ++ dvs) (us ++ ds) := r.append hd
  have hl : (us ++ ds).length = ps.length := by rw [← r2.length]; exact F.len _ _ _ _ h
  refine wpAny_call (codeAny_mono (F.run X.A X.stack s H ⟨us, []⟩ (us ++ ds) (vs ++ dvs) Q E hr I.env0 (hb s us I.kIn hl) r2 h) fun r s' hq => ?_)
  cases r with
  | error e => exact hx pins σ H s e s' I hq
  | ok fl =>
    cases fl with
    | ret u => exact I.after hq
    | next => exact False.elim hq
    | brk => exact False.elim hq
    | cont => exact False.elim hq

theorem pe_call (F : FnOk X.prog X.w X.K X.mg X.base CX k f fd ps sp) (hr : Room k X.A) (hg : Gl X x) (hm : X.mg x = some (.ref f)) (hk : PySem.W.keepIn X.K (.ref f) = true) (hb : Binds X.K fd ps ds) (hd : Vals dvs ds) (hx : Passes CX X E)
    (ha : PA X (e :: es) t) (hdb : (x == ("__debug__" : Str)) = false := by decide) (he : starEach (e :: es) X.env = (false, eval e X.env) :: starEach es X.env := by rfl) (hpl : (backTo pos (starEach es X.env)).any (·.1) = false := by rfl) :
    PE X (.Call (.Name x p) (e :: es) [] pos) (tCall sp dvs E t) := by
  intro pins s σ H Q I h
  refine wpAny_Call_Name_kw (ld_glob I hg hm ?_ hdb)
  refine PySem.W.callWith_K (h₀ := X.base) I.ok.mod.kin hk (thn (ha pos pins s σ H _ I h) fun us s1 ⟨vs, H1, I1, r, q⟩ => ⟨I1.kIn, ?_⟩) he hpl
  exact run_fn F hr hb hd hx I1 r q


/-- what a class must have to be made -/
structure Mk (K : PySem.W.Frag) (C f : Addr) : Prop where
  makes : PySem.W.makesIn K C = true
  init : PySem.W.findIn K (.ref C) "__init__" = some (some (.ref f))
  fn : PySem.W.isFn K (.ref f) = true
  kp : PySem.W.keepIn K (.ref C) = true

end

/-! ### keywords -/
/-- the values of the keywords, from the left -/
def PK (X : Cx) (kws : List Keyword) (t : TA) : Prop :=
  ∀ (pos : Pos) (pins : List (Addr × Obj)) (s : Shared) (σ : St) (H : Hp) (Q : List V → Hp → Prop), Inv X pins σ H s → t σ H Q → wpAny (model X.prog X.w) X.A (evalAll ((backToKw pos (keywordEach kws X.env)).map (·.2))) (AP X pins σ Q) X.xe s
section
variable {X : Cx} {CX : CXT} {k : Nat} {f C : Addr} {fd : FuncData} {ps ks : List Str} {sp : Sp} {E : XK} {x m : Str} {p pos apos kpos : Pos} {e o : Expr} {es : List Expr} {kws : List Keyword} {te ta : TE} {t tk : TA} {nm : Option Str}

/-- how a call with keywords binds: g puts the positional values us and the keywords' values ws (names ks) in the parameters' order, defaults among them -/
structure KBinds (K : PySem.W.Frag) (fd : FuncData) (ps ks : List Str) (g : List Value → List Value → List Value) (gV : List V → List V → List V) : Prop where
  to : ∀ (s : Shared) (us ws : List Value), K.In s.heap → (g us ws).length = ps.length → BindsTo s fd ⟨us, ks.zip ws⟩ (ps.zip (g us ws))
  rel : ∀ {vs : List V} {us : List Value} {zs : List V} {ws : List Value}, Vals vs us → Vals zs ws → Vals (gV vs zs) (g us ws)
def tCallK (sp : Sp) (gV : List V → List V → List V) (E : XK) (t tk : TA) : TE := fun σ H Q => t σ H fun vs H1 => tk σ H1 fun zs H2 => sp (gV vs zs) H2 Q E
variable {g : List Value → List Value → List Value} {gV : List V → List V → List V}
end

/-! ### a def's body keeps its promise -/
/-- names: the parameters first -/
structure FnScope (N P : List Str) (sc : Scope) : Prop where
  kind : sc.kind = .function
  co : sc.isCoroutine = false
  gen : sc.isGenerator = false
  nd : N.Nodup
  pre : N.take P.length = P
  par : ∀ x ∈ P, sc.names.lookup x = some .local ∨ sc.names.lookup x = some .cell
  nofree : ∀ y ∈ sc.names, y.2 ≠ .free

theorem bindL_out {kindOf : Str → Option NameKind} {x : Str} : ∀ {binds : List (Str × Value)} {m : Str → Option Value}, (∀ v, (x, v) ∉ binds) → bindL kindOf binds m x = m x
  | [], _, _ => rfl
  | (n, v) :: r, m, h => by
    unfold bindL
    rw [bindL_out fun w hw => h w (List.mem_cons_of_mem _ hw)]
    split
    · have : x ≠ n := by rintro rfl; exact h v List.mem_cons_self
      simp [this]
    · rfl
theorem bindC_out {kindOf : Str → Option NameKind} {x : Str} : ∀ {binds : List (Str × Value)} {m : Str → Option Value}, (∀ v, (x, v) ∉ binds) → bindC kindOf binds m x = m x
  | [], _, _ => rfl
  | (n, v) :: r, m, h => by
    unfold bindC
    rw [bindC_out fun w hw => h w (List.mem_cons_of_mem _ hw)]
    split
    · rfl
    · have : x ≠ n := by rintro rfl; exact h v List.mem_cons_self
      simp [this]
theorem bindL_get {kindOf : Str → Option NameKind} {x : Str} {v : Value} : ∀ {P : List Str} {vs : List Value} {i : Nat} {m : Str → Option Value}, P.Nodup → P[i]? = some x → vs[i]? = some v → kindOf x = some .local →
    bindL kindOf (P.zip vs) m x = some v
  | [], _, _, _, _, h, _, _ => by simp at h
  | _ :: _, [], _, _, _, _, h, _ => by simp at h
  | p :: P, w :: vs, 0, m, nd, h1, h2, hk => by
    simp at h1 h2; subst h1; subst h2
    show bindL kindOf ((p, w) :: P.zip vs) m p = _
    unfold bindL
    rw [bindL_out fun v hv => (List.nodup_cons.mp nd).1 (List.of_mem_zip hv).1, if_pos hk]
    simp
  | p :: P, w :: vs, i + 1, m, nd, h1, h2, hk => by
    show bindL kindOf ((p, w) :: P.zip vs) m x = _
    unfold bindL
    exact bindL_get (i := i) (List.nodup_cons.mp nd).2 (by simpa using h1) (by simpa using h2) hk
theorem bindC_get {kindOf : Str → Option NameKind} {x : Str} {v : Value} : ∀ {P : List Str} {vs : List Value} {i : Nat} {m : Str → Option Value}, P.Nodup → P[i]? = some x → vs[i]? = some v → kindOf x ≠ some .local →
    bindC kindOf (P.zip vs) m x = some v
  | [], _, _, _, _, h, _, _ => by simp at h
  | _ :: _, [], _, _, _, _, h, _ => by simp at h
  | p :: P, w :: vs, 0, m, nd, h1, h2, hk => by
    simp at h1 h2; subst h1; subst h2
    show bindC kindOf ((p, w) :: P.zip vs) m p = _
    unfold bindC
    rw [bindC_out fun v hv => (List.nodup_cons.mp nd).1 (List.of_mem_zip hv).1, if_neg hk]
    simp
  | p :: P, w :: vs, i + 1, m, nd, h1, h2, hk => by
    show bindC kindOf ((p, w) :: P.zip vs) m x = _
    unfold bindC
    exact bindC_get (i := i) (List.nodup_cons.mp nd).2 (by simpa using h1) (by simpa using h2) hk

/-- the names' values at the entry -/
def start (N : List Str) (vs : List V) : St := vs.map some ++ List.replicate (N.length - vs.length) none

/-- the context of a def's body, at its entry; an exception leaves the frame, then lies as CX says -/
def cxOf (CX : CXT) (P : Program) (w : World) (K : PySem.W.Frag) (mg : Str → Option Value) (base : Heap) (N : List Str) (qual : Str) (scope : Scope) (f : Addr) (cd : Value) (A : Around) (outer : List Env) (s : Shared) (H : Hp) (E : XK) : Cx where
  prog := P
  w := w
  K := K
  mg := mg
  base := base
  A := A.deeper (envOfC qual scope s.heap.objs.size f cd)
  N := N
  s₀ := s
  H₀ := H
  env := envOfC qual scope s.heap.objs.size f cd
  outer := outer
  stack := envOfC qual scope s.heap.objs.size f cd :: outer
  ex := []
  calm := true
  fn := fun _ => true
  pn := []
  xe := fun e s' => wpAny (model P w) (A.deeper (envOfC qual scope s.heap.objs.size f cd)) (leaving (envOfC qual scope s.heap.objs.size f cd) e) (fun _ s'' => CX outer H s E e s'') (fun e' s'' => CX outer H s E e' s'') s'

theorem cell_has {sc : Scope} {n : Nat} {x : Str} (h : sc.names.lookup x = some .cell) : ∃ c, (cellsFrom n sc.names []).lookup x = some c := by
  have q := PySem.W.cellsFrom_some sc.names n [] (.inl h)
  exact Option.isSome_iff_exists.mp q

theorem inv_start {CX : CXT} {P : Program} {w : World} {K : PySem.W.Frag} {mg : Str → Option Value} {base : Heap} {N ps : List Str} {qual : Str} {scope : Scope} {f : Addr} {cd : Value} {A : Around} {outer : List Env} {s s1 : Shared} {H : Hp} {E : XK} {us : List Value} {vs : List V}
    (S : FnScope N ps scope) (hd : A.handled = none) (e0 : Env0 P w K mg base A outer s H) (hl : vs.length = ps.length) (r : Vals vs us)
    (x : InCallC s s.heap.objs.size (bindL (envOfC qual scope s.heap.objs.size f cd).kindOf (ps.zip us) fun _ => none) (cellsFrom (s.heap.objs.size + 1) scope.names []) (bindC (envOfC qual scope s.heap.objs.size f cd).kindOf (ps.zip us) fun _ => none) s1) :
    Inv (cxOf CX P w K mg base N qual scope f cd A outer s H E) [] (start N vs) H s1 := by
  have hpl : ps.length ≤ N.length := by have := congrArg List.length S.pre; rw [List.length_take] at this; omega
  obtain ⟨h1, tk, rfl, hk⟩ := x.done
  have noA : ∀ b : Addr, b ∉ (cxOf CX P w K mg base N qual scope f cd A outer s H E).ex := fun b z => absurd (show b ∈ ([] : List Addr) from z) (by simp)
  refine ⟨⟨e0.mod, S.kind, rfl, rfl, Nat.le_refl _, fun y z c h1 h2 => ?_, fun y hy => ?_, fun y c _ h => ?_, fun _ => hd, Around.frames_deeper e0.frames, .inr ⟨rfl, rfl⟩, fun b z => absurd z (noA b), e0.bs, e0.bsz, fun b _ _ => noA b, fun b z => absurd z (noA b), e0.funs, e0.frf⟩,
    rfl, e0.bare, Un.kept hk, ⟨_, x.toInCall.ns, fun i y v h1 h2 h3 => ?_⟩, fun y c h => ⟨_, x.cell y c h⟩, e0.hok.fresh (Nat.le_refl _), fun y c h => ?_, fun p hp => absurd (show p ∈ ([] : List (Addr × Obj)) from hp) (by simp), e0.hok.kept hk, ?_⟩
  · exact name_of_addr x.apart (PySem.mem_of_lookup h1) (PySem.mem_of_lookup h2)
  · have hy : scope.names.lookup y = some .cell ∨ scope.names.lookup y = some .free := hy
    rcases hy with hy | hy
    · exact cell_has hy
    · exact absurd rfl (S.nofree _ (PySem.mem_of_lookup hy))
  · exact Nat.le_of_lt (x.above y c (PySem.mem_of_lookup h))
  · have hi : i < vs.length := by
      unfold start at h2
      by_cases hi : i < vs.length
      · exact hi
      · rw [List.getElem?_append_right (by simpa using hi)] at h2
        rw [List.getElem?_replicate] at h2
        split at h2 <;> cases h2
    have ha : vs[i]? = some v := by
      unfold start at h2
      rw [List.getElem?_append_left (by simpa using hi), List.getElem?_map] at h2
      cases e : vs[i]? with
      | none => rw [e] at h2; cases h2
      | some a => rw [e] at h2; cases h2; rfl
    obtain ⟨u, hu, rv⟩ := r.get ha
    have hp : ps[i]? = some y := by
      rw [← S.pre, List.getElem?_take_of_lt (by omega)]; exact h1
    have ndP : ps.Nodup := by rw [← S.pre]; exact S.nd.sublist (List.take_sublist _ _)
    refine ⟨u, rv, ?_⟩
    rcases S.par y (List.mem_of_getElem? hp) with k | k
    · exact .inl ⟨k, bindL_get ndP hp hu k⟩
    · obtain ⟨c, e⟩ := cell_has (n := s.heap.objs.size + 1) k
      refine .inr ⟨.inl k, c, e, ?_⟩
      have q := x.cell y c e
      rw [bindC_get ndP hp hu (by show scope.names.lookup y ≠ _; rw [k]; decide)] at q
      exact q
  · exact e0.hok.fresh (Nat.le_of_lt (x.above y c (PySem.mem_of_lookup h)))
  · unfold start
    show _ = N.length
    rw [List.length_append, List.length_map, List.length_replicate]
    omega

/-- THE RULE: a def (or a method) of the text, by its body. The body's reading t is chosen for each entry; it is run at the parameters' values -/
theorem fn_of {CX : CXT} {P : Program} {w : World} {K : PySem.W.Frag} {mg : Str → Option Value} {base : Heap} {k : Nat} {f : Addr} {name qual : Str} {params : Arguments} {body : List Stmt} {scope : Scope} {dV kV doc pm cdv ct oc : Value} {an od : Option Addr}
    {osl : Array (Option Value)} {N ps : List Str} {sp : Sp} (lk : K.lookup f = some ⟨oc, od, .func (PySem.W.fnOf name qual params body scope dV kV doc pm an cdv ct), osl⟩) (hcd : PySem.W.codeIn K cdv qual = true) (S : FnScope N ps scope)
    (len : ∀ vs H Q E, sp vs H Q E → vs.length = ps.length)
    (hbody : ∀ (A : Around) (outer : List Env) (s : Shared) (H : Hp) (vs : List V) (Q : VK) (E : XK), Room k (A.deeper (envOfC qual scope s.heap.objs.size f cdv)) → sp vs H Q E →
      ∃ t, PSs (cxOf CX P w K mg base N qual scope f cdv A outer s H E) body t ∧ t { nx := fun _ H' => Q .non H', rt := Q } (start N vs) H) :
    FnOk P w K mg base CX (k + 1) f (PySem.W.fnOf name qual params body scope dV kV doc pm an cdv ct) ps sp := by
  refine ⟨len, fun A outer s H args us vs Q E hr e0 hb r hsp => ?_⟩
  have hl := len _ _ _ _ hsp
  have KX : K.In s.heap := e0.mod.kin.keeps fun b o e => (e0.bs b o e).1
  have lim : s.heap.NoLimit := e0.mod.nolimit.keeps fun b o e => (e0.bs b o e).1
  have hkind : ∀ y ∈ ps.zip us, scope.names.lookup y.1 = some .local ∨ (scope.names.lookup y.1 = some .cell ∧ ((cellsFrom (s.heap.objs.size + 1) scope.names []).lookup y.1).isSome = true) := fun ⟨n, v⟩ hy => by
    rcases S.par n (List.of_mem_zip hy).1 with q | q
    · exact .inl q
    · exact .inr ⟨q, PySem.W.cellsFrom_some _ _ _ (.inl q)⟩
  refine codeAny_call_function hr.depth (KX _ _ lk) rfl S.co S.gen rfl (PySem.W.codeRec_of KX hcd) (hb _ _ _ _ ?_)
  refine wpAny_newFunctionEnv_cells S.kind hkind fun env he s1 x => ?_
  subst he
  refine ⟨lim.keeps x.toInCall.keep, codeAny_func ?_⟩
  obtain ⟨t, ht, hq⟩ := hbody A outer s H vs Q E (hr.deeper _) hsp
  have I : Inv (cxOf CX P w K mg base N qual scope f cdv A outer s H E) [] (start N vs) H s1 := inv_start S hr.hd e0 hl r x
  refine wpAny_mono (ht [] s1 (start N vs) H _ I hq) (fun fl s' hs => ?_) fun e s' hs => hs
  have fin : ∀ {σ' : St} {H' : Hp} {v : V} {u : Value}, Inv (cxOf CX P w K mg base N qual scope f cdv A outer s H E) [] σ' H' s' → RelV v u → Q v H' → CE outer P w H s Q u s' :=
    fun {σ' H' v u} J rv q => ⟨v, H', J.os, J.bare, J.base, J.hok, rv, q⟩
  cases fl with
  | ret u =>
    obtain ⟨v, σ', H', J, rv, q⟩ := hs
    exact fin J rv q
  | next =>
    obtain ⟨σ', H', J, q⟩ := hs
    exact fin (v := V.non) (u := Value.none) J rfl q
  | brk =>
    obtain ⟨_, _, _, q⟩ := hs
    exact False.elim q
  | cont =>
    obtain ⟨_, _, _, q⟩ := hs
    exact False.elim q
end L2

namespace L2
open PySem PySem.Spec PyProof.Rows
section
variable {X : Cx} {x : Str} {p pos : Pos} {e : Expr} {es : List Expr} {t : TA} {id T : String} {r : List V → Hp → VK → Prop}

def tCB (r : List V → Hp → VK → Prop) (t : TA) : TE := fun σ H Q => t σ H fun vs H1 => r vs H1 Q
/-- f(e, ..), f a built-in function -/
theorem pe_callB (hc : CallR X (.builtin id) r) (hg : Gl X x) (hm : X.mg x = none) (hv : bootBuiltins x = some (.builtin id)) (ha : PA X (e :: es) t) (hn : x ≠ "__name__" := by decide) (hdb : (x == ("__debug__" : Str)) = false := by decide)
    (he : starEach (e :: es) X.env = (false, eval e X.env) :: starEach es X.env := by rfl) (hpl : (backTo pos (starEach es X.env)).any (·.1) = false := by rfl) : PE X (.Call (.Name x p) (e :: es) [] pos) (tCB r t) := by
  intro pins s σ H Q I h
  refine wpAny_Call_Name_kw (ld_blt I hg hm hv ?_ hn hdb)
  exact PyProof.Rows.callWith_builtin1 (thn (ha pos pins s σ H _ I h) fun us s1 ⟨vs, H1, I1, r1, q1⟩ => hc pins s1 σ H1 vs us Q I1 r1 q1) he hpl
/-- T(e, ..), T a built-in type -/
theorem pe_callTy (hc : CallR X (.type T) r) (hg : Gl X x) (hm : X.mg x = none) (hv : bootBuiltins x = some (.type T)) (ha : PA X (e :: es) t) (hn : x ≠ "__name__" := by decide) (hdb : (x == ("__debug__" : Str)) = false := by decide)
    (he : starEach (e :: es) X.env = (false, eval e X.env) :: starEach es X.env := by rfl) (hpl : (backTo pos (starEach es X.env)).any (·.1) = false := by rfl) : PE X (.Call (.Name x p) (e :: es) [] pos) (tCB r t) := by
  intro pins s σ H Q I h
  refine wpAny_Call_Name_kw (ld_blt I hg hm hv ?_ hn hdb)
  exact PyProof.Rows.callWith_type1 (thn (ha pos pins s σ H _ I h) fun us s1 ⟨vs, H1, I1, r1, q1⟩ => hc pins s1 σ H1 vs us Q I1 r1 q1) he hpl
end
end L2

namespace HT
open PySem PyProof.Rows

/-- t < u of tuples of ints -/
def lexLt : List Int → List Int → Bool
  | [], [] => false
  | [], _ :: _ => true
  | _ :: _, [] => false
  | x :: xs, y :: ys => if x = y then lexLt xs ys else decide (x < y)


section
open PySem.SeqAt
open PySem.AutoSeq1 (wpAny_loadPart')
open PySem.MeetsSeq PySem.MeetsSeq2 PySem.MeetsSeq3

end

section
variable {prog : Program} {w : World} {A : Around} {E : Value → Shared → Prop} {s : Shared}



/-! ### t[a:b], not the whole -/
/-- a slice's bound as a place among n (d where it is left out) -/
def sIx (n d : Nat) : Option Int → Nat
  | none => d
  | some v => if v < 0 then (v + (n : Int)).toNat else min v.toNat n

end
end HT

namespace L2
open PySem PySem.Spec PyProof.Rows

/-! ### the parts of a slice -/
abbrev TO := St → Hp → (Option Int → Hp → Prop) → Prop
/-- a slice's part (left out, or an int) -/
def PO (X : Cx) (e : Option Expr) (t : TO) : Prop :=
  ∀ (pins : List (Addr × Obj)) (s : Shared) (σ : St) (H : Hp) (Q : Option Int → Hp → Prop), Inv X pins σ H s → t σ H Q →
    wpAny (model X.prog X.w) X.A (evalPart e X.env) (fun u s' => ∃ o H', Inv X pins σ H' s' ∧ IsPart u o ∧ Q o H') X.xe s
def tNoPart : TO := fun _ H Q => Q none H
def tPart (t : TE) : TO := fun σ H Q => t σ H fun x H1 => ∃ i, x = .int i ∧ Q (some i) H1

theorem intsAre_of {ns : List Int} : ∀ {us : List Value}, Vals (ns.map V.int) us → IntsAre us ns := by
  induction ns with
  | nil => intro us r; rw [List.map_nil] at r; cases r; exact .nil
  | cons n ns ih =>
    intro us r
    rw [List.map_cons] at r
    cases r with
    | cons r1 r2 =>
      obtain ⟨t, e⟩ := r1
      subst e
      exact .cons n t (ih r2)

section
variable {X : Cx} {e : Expr} {te : TE} {lo hi : Option Expr} {tl th : TO} {pos p2 : Pos}

theorem po_none : PO X none tNoPart := by
  intro pins s σ H Q I h
  rw [evalPart_none]
  exact wpAny_pure ⟨none, H, I, .none, h⟩
theorem po_some (h : PE X e te) : PO X (some e) (tPart te) := by
  intro pins s σ H Q I hw
  rw [evalPart_some]
  refine thn (h pins s σ H _ I hw) fun u s1 ⟨x, H1, I1, r1, q1⟩ => ?_
  obtain ⟨i, rfl, q⟩ := q1
  obtain ⟨t, rfl⟩ := r1
  exact ⟨some i, H1, I1, .int i t, q⟩

/-- what a slice of a value is, by values: the slice object stands at sl -/
def SlR (X : Cx) (r : V → Option Int → Option Int → Hp → VK → Prop) : Prop :=
  ∀ (pins : List (Addr × Obj)) (s : Shared) (σ : St) (H : Hp) (x : V) (v vl vu : Value) (lo hi : Option Int) (sl : Addr) (Q : VK), Inv X pins σ H s → RelV x v → s.heap.IsSliceOf sl vl vu .none → IsPart vl lo → IsPart vu hi → r x lo hi H Q →
    ∃ T id, typeLookup (.type T) "__getitem__" = pure (some (.builtin id)) ∧ s.TypeIs v T ∧ wpAny (model X.prog X.w) X.A (getItem v (.ref sl)) (EP X pins σ Q) X.xe s
def tSl (r : V → Option Int → Option Int → Hp → VK → Prop) (te : TE) (tl th : TO) : TE := fun σ H Q => te σ H fun x H1 => tl σ H1 fun l H2 => th σ H2 fun u H3 => r x l u H3 Q
/-- a[lo:hi], any a -/
theorem pe_slice {r : V → Option Int → Option Int → Hp → VK → Prop} (hr : SlR X r) (he : PE X e te) (hl : PO X lo tl) (hu : PO X hi th) : PE X (.Subscript e (.Slice lo hi none p2) pos) (tSl r te tl th) := by
  intro pins s σ H Q I h
  refine Subscript_ (thn (he pins s σ H _ I h) fun v s1 ⟨x, H1, I1, r1, q1⟩ => ?_)
  refine wpAny_Slice (thn (hl pins s1 σ H1 _ I1 q1) fun vl s2 ⟨l, H2, I2, pl, q2⟩ => thn (hu pins s2 σ H2 _ I2 q2) fun vu s3 ⟨u, H3, I3, pu, q3⟩ => ?_)
  rw [evalPart_none]
  refine wpAny_pure ?_
  have I4 : Inv X pins σ H3 { s3 with heap := s3.heap.push { cls := .type "slice", data := .fields #[vl, vu, .none] } } := I3.kept (t' := s3.toks) fun b ob q => Heap.get?_push_of_some _ q
  obtain ⟨T, id, hT, ht, hg⟩ := hr pins { s3 with heap := s3.heap.push { cls := .type "slice", data := .fields #[vl, vu, .none] } } σ H3 x v vl vu l u s3.heap.objs.size Q I4 r1 (Heap.IsSliceOf.new ..) pl pu q3
  show wpAny (model X.prog X.w) X.A (subscriptTail e (.Slice lo hi none p2) v (.ref s3.heap.objs.size)) (EP X pins σ Q) X.xe { s3 with heap := s3.heap.push { cls := .type "slice", data := .fields #[vl, vu, .none] } }
  exact tail_any (ops := [.ref s3.heap.objs.size, v]) ht hT hg (by with_unfolding_all rfl)

/-- the items of xs[lo:hi] -/
def cutV (xs : List V) (lo hi : Option Int) : List V := (xs.drop (HT.sIx xs.length 0 lo)).take (HT.sIx xs.length xs.length hi - HT.sIx xs.length 0 lo)
theorem cutV_length (xs : List V) (lo hi : Option Int) : (cutV xs lo hi).length ≤ xs.length := by
  unfold cutV
  rw [List.length_take, List.length_drop]
  omega
/-- t[lo:hi], not the whole of it (the whole would be t itself) -/
def rSlT (K : PySem.W.Frag) : V → Option Int → Option Int → Hp → VK → Prop := fun x lo hi H Q => ∃ a xs, x = .ref a ∧ SqT K H a xs ∧
  ¬ (HT.sIx xs.length 0 lo = 0 ∧ HT.sIx xs.length xs.length hi = xs.length) ∧ ∀ p, H p = none → Q (.ref p) (upd H p (.tup (cutV xs lo hi)))

/-! ### t < u, t + u -/
def rLtT (K : PySem.W.Frag) : R2 := fun x y H Q => ∃ a b ns ms, x = .ref a ∧ y = .ref b ∧ SqT K H a (ns.map V.int) ∧ SqT K H b (ms.map V.int) ∧ Q (.bl (HT.lexLt ns ms)) H
/-- t + u, t not empty: u empty gives t itself -/
def rCatT (K : PySem.W.Frag) : R2 := fun x y H Q => ∃ a b xs ys, x = .ref a ∧ y = .ref b ∧ SqT K H a xs ∧ SqT K H b ys ∧ xs ≠ [] ∧ xs.length + ys.length ≤ sizeLine ∧
  (ys = [] → Q (.ref a) H) ∧ (ys ≠ [] → ∀ p, H p = none → Q (.ref p) (upd H p (.tup (xs ++ ys))))
end
end L2

namespace L2
open PySem PySem.Spec PyProof.Rows

/-! ### places -/
/-- the place that an index of any sign means -/
def ixN (n : Nat) (i : Int) : Option Nat := if 0 ≤ i then (if i < n then some i.toNat else none) else if -(n : Int) ≤ i then some (i + n).toNat else none
def atI {α : Type} (xs : List α) (i : Int) : Option α := (ixN xs.length i).bind fun j => xs[j]?
theorem ixN_seq {n : Nat} {i : Int} {j : Nat} (h : ixN n i = some j) : seqIndex? i n = some j ∧ j < n ∧ -(n : Int) ≤ i ∧ i < n := by
  unfold ixN at h
  by_cases h0 : 0 ≤ i
  · rw [if_pos h0] at h
    by_cases h1 : i < n
    · rw [if_pos h1] at h
      have e : i.toNat = j := Option.some.inj h
      exact ⟨by rw [seqIndex_of h0 h1, e], by omega, by omega, h1⟩
    · rw [if_neg h1] at h; cases h
  · rw [if_neg h0] at h
    by_cases h1 : -(n : Int) ≤ i
    · rw [if_pos h1] at h
      have e : (i + n).toNat = j := Option.some.inj h
      exact ⟨by rw [seqIndex_neg (by omega) h1, e], by omega, h1, by omega⟩
    · rw [if_neg h1] at h; cases h
theorem atI_get {α : Type} {xs : List α} {i : Int} {v : α} (h : atI xs i = some v) : ∃ j, seqIndex? i xs.length = some j ∧ xs[j]? = some v ∧ j < xs.length ∧ -(xs.length : Int) ≤ i ∧ i < xs.length := by
  unfold atI at h
  cases e : ixN xs.length i with
  | none => rw [e] at h; cases h
  | some j =>
    rw [e] at h
    obtain ⟨h1, h2, h3, h4⟩ := ixN_seq e
    exact ⟨j, h1, h, h2, h3, h4⟩
theorem atI_nat {α : Type} {xs : List α} {j : Nat} {v : α} (h : xs[j]? = some v) : atI xs (j : Int) = some v := by
  have hj : j < xs.length := (List.getElem?_eq_some_iff.mp h).1
  have e : ixN xs.length (j : Int) = some j := by
    unfold ixN
    rw [if_pos (by omega), if_pos (by omega)]; simp
  unfold atI; rw [e]; exact h

/-! ### what may be subscripted -/
/-- what stands as an index of a plain subscript -/
def PlainIx (b : Expr) : Prop := ∀ o i, subscripted b false o i = operate [o, i] (getItem o i)
/-- a subscript by values -/
def IxR (X : Cx) (r : R2) : Prop :=
  ∀ (value slice : Expr) (pins : List (Addr × Obj)) (s : Shared) (σ : St) (H : Hp) (x y : V) (v u : Value) (Q : VK), Inv X pins σ H s → RelV x v → RelV y u → r x y H Q →
    subscripted slice false v u = operate [v, u] (getItem v u) → wpAny (model X.prog X.w) X.A (subscriptTail value slice v u) (EP X pins σ Q) X.xe s
/-- a call of a builtin's method by values: the receiver, the arguments -/
def MtR (X : Cx) (id : String) (r : V → List V → Hp → VK → Prop) : Prop :=
  ∀ (pins : List (Addr × Obj)) (s : Shared) (σ : St) (H : Hp) (x : V) (xs : List V) (v : Value) (us : List Value) (Q : VK), Inv X pins σ H s → RelV x v → Vals xs us → r x xs H Q →
    wpAny (model X.prog X.w) X.A (call (.builtin id) (v :: us)) (EP X pins σ Q) X.xe s
section
variable {X : Cx} {a b : Expr} {ta tb : TE} {pos : Pos}
/-- a[b] -/
theorem pe_ix {r : R2} (hr : IxR X r) (ha : PE X a ta) (hb : PE X b tb) (hs : PlainIx b) : PE X (.Subscript a b pos) (tOp r ta tb) := by
  intro pins s σ H Q I h
  exact Subscript_ (binT ha hb I h fun v u s2 x y H2 I2 rx ry q => hr a b pins s2 σ H2 x y v u Q I2 rx ry q (hs _ _))

def rIxL (K : PySem.W.Frag) : R2 := fun x y H Q => ∃ p xs i v, x = .ref p ∧ y = .int i ∧ SqL K H p xs ∧ atI xs i = some v ∧ Q v H
def rIxT (K : PySem.W.Frag) : R2 := fun x y H Q => ∃ p xs i v, x = .ref p ∧ y = .int i ∧ SqT K H p xs ∧ atI xs i = some v ∧ Q v H
def rIxS : R2 := fun x y H Q => ∃ z i c, x = .str z ∧ y = .int i ∧ z.length ≤ sizeLine ∧ atI z.cps.toList i = some c ∧ Q (.str ⟨#[c]⟩) H
theorem ix_list : IxR X (rIxL X.K) := by
  intro value slice pins s σ H x y v u Q I rx ry h hs
  obtain ⟨p, xs, i, z, rfl, rfl, hq, he, q⟩ := h
  cases rx
  obtain ⟨t, rfl⟩ := ry
  obtain ⟨its, r, pl, hz⟩ := I.list hq
  obtain ⟨j, h1, h2, h3, h4, h5⟩ := atI_get he
  obtain ⟨w, ew, rw'⟩ := r.get h2
  have hl := r.length
  have hn := line63
  have fin : EP X pins σ Q w s := ⟨z, H, I, rw', q⟩
  by_cases h0 : 0 ≤ i
  · have hj : i.toNat = j := by
      rw [seqIndex_of h0 h5] at h1
      exact Option.some.inj h1
    exact item_listR pl.isList h0 (by omega) (by rw [hj]; simpa using ew) fin hs
  · have hj : (i + (its.toArray.size : Int)).toNat = j := by
      rw [seqIndex_neg (by omega) h4] at h1
      rw [List.size_toArray, ← hl]
      exact Option.some.inj h1
    exact subscriptTail_builtinR (x := w) pl.isList.typeIs slot_list_getitem.lookup
      (wpAny_getItem_list_neg (Q := fun r s' => r = w ∧ EP X pins σ Q r s') pl.isList (by omega) (by rw [List.size_toArray] <;> omega) (by omega) (by rw [hj]; simpa using ew) ⟨rfl, fin⟩) hs
theorem ix_tup : IxR X (rIxT X.K) := by
  intro value slice pins s σ H x y v u Q I rx ry h hs
  obtain ⟨p, xs, i, z, rfl, rfl, hq, he, q⟩ := h
  cases rx
  obtain ⟨t, rfl⟩ := ry
  obtain ⟨its, r, pl, hz⟩ := I.tuple hq
  obtain ⟨j, h1, h2, h3, h4, h5⟩ := atI_get he
  obtain ⟨w, ew, rw'⟩ := r.get h2
  have hl := r.length
  have hn := line63
  have fin : EP X pins σ Q w s := ⟨z, H, I, rw', q⟩
  exact subscriptTail_builtinR (x := w) pl.typeIs slot_tuple_getitem.lookup
    (getItem_tuple (j := j) (Q := fun r s' => r = w ∧ EP X pins σ Q r s') pl (by omega) (by omega) (by rw [List.size_toArray, ← hl]; exact h1) (by simpa using ew) ⟨rfl, fin⟩) hs
theorem ix_str : IxR X rIxS := by
  intro value slice pins s σ H x y v u Q I rx ry h hs
  obtain ⟨z, i, c, rfl, rfl, hz, he, q⟩ := h
  obtain ⟨t, rfl⟩ := rx
  obtain ⟨t', rfl⟩ := ry
  obtain ⟨j, h1, h2, h3, h4, h5⟩ := atI_get he
  have hl : z.cps.toList.length = z.length := by simp [Str.length]
  rw [hl] at h1 h4 h5
  have hn := line63
  exact tail_any (typeIs_str s z t) slot_str_getitem.lookup (getItem_str (c := c) (by
    have e1 : decide (i < -(2 ^ 63 : Int)) = false := decide_eq_false (by omega)
    have e2 : decide (i ≥ 2 ^ 63) = false := decide_eq_false (by omega)
    rw [e1, e2, Bool.or_false]) (by rw [h1]; simpa using h2) ⟨.str ⟨#[c]⟩, H, I.tok _, ⟨_, rfl⟩, q⟩) hs
/-- list, tuple or str -/
def rIx (K : PySem.W.Frag) : R2 := fun x y H Q => rIxL K x y H Q ∨ rIxT K x y H Q ∨ rIxS x y H Q

/-! ### xs[i] = v, any sign -/
/-- the list's object behind a store -/
theorem mapSeq_set (its : List Value) (n j : Nat) (u : Value) : Obj.mapSeq (·.setIfInBounds j u) { cls := .type "list", data := .seq its.toArray n } = { cls := .type "list", data := .seq (its.set j u).toArray n } := by
  simp [Obj.mapSeq]
theorem Inv.lst {pins : List (Addr × Obj)} {σ : St} {H : Hp} {s : Shared} {p : Addr} {xs : List V} (I : Inv X pins σ H s) (h : H p = some (.lst xs)) :
    ∃ (its : List Value) (n : Nat), Vals xs its ∧ s.heap.get? p = some { cls := .type "list", data := .seq its.toArray n } ∧ xs.length ≤ sizeLine := by
  obtain ⟨z, its, n, r, e⟩ := I.hok p _ h
  exact ⟨its, n, r, e, z⟩
/-- the list at p is written by an update of its object -/
theorem Inv.lstUpd {pins : List (Addr × Obj)} {σ : St} {H : Hp} {s : Shared} {p : Addr} {xs ys : List V} {its its' : List Value} {n n' : Nat} {f : Obj → Obj} (I : Inv X pins σ H s) (h : H p = some (.lst xs))
    (ho : s.heap.get? p = some { cls := .type "list", data := .seq its.toArray n }) (hf : f { cls := .type "list", data := .seq its.toArray n } = { cls := .type "list", data := .seq its'.toArray n' }) (r : Vals ys its') (hz : ys.length ≤ sizeLine) (t : Nat) :
    Inv X pins σ (upd H p (.lst ys)) { s with heap := s.heap.update p f, toks := t } := by
  have e : (s.heap.update p f).get? p = some { cls := .type "list", data := .seq its'.toArray n' } := by
    rw [Heap.get?_update_self f ho (by rw [hf] <;> rfl), hf]
  refine I.write (x := p) (e := p) (by rw [h]; trivial) (.inl rfl) (fun b u hb q => (Heap.get?_update_other _ _ (Ne.symm hb)).trans q) ⟨_, e⟩ ?_
  exact ⟨hz, its', n', r, e⟩
def rSetL : V → V → V → Hp → (Hp → Prop) → Prop := fun o i v H Q => ∃ p xs k j, o = .ref p ∧ i = .int k ∧ H p = some (.lst xs) ∧ ixN xs.length k = some j ∧ Q (upd H p (.lst (xs.set j v)))
theorem set_list : PSet X rSetL := by
  intro pins s σ H o i v ov iv u Q I ro ri rv h
  obtain ⟨p, xs, k, j, rfl, rfl, hp, hj, q⟩ := h
  cases ro
  obtain ⟨t, rfl⟩ := ri
  obtain ⟨its, n, r, ho, hz⟩ := I.lst hp
  obtain ⟨h1, h2, h3, h4⟩ := ixN_seq hj
  have hl := r.length
  have hn := line63
  have I' : Inv X pins σ (upd H p (.lst (xs.set j v))) { s with heap := s.heap.update p (Obj.mapSeq (·.setIfInBounds j u)) } :=
    I.lstUpd hp ho (mapSeq_set its n j u) (r.set rv j) (by rw [List.length_set]; exact hz) s.toks
  by_cases h0 : 0 ≤ k
  · have hk : k.toNat = j := by
      rw [seqIndex_of h0 h4] at h1
      exact Option.some.inj h1
    exact PySem.W.ki_setAt ho h0 (by omega) (by rw [List.size_toArray, ← hl]; exact h4) (by rw [hk]; exact ⟨_, I', q⟩)
  · have hk : (k + (its.toArray.size : Int)).toNat = j := by
      rw [seqIndex_neg (by omega) h3] at h1
      rw [List.size_toArray, ← hl]
      exact Option.some.inj h1
    exact PySem.W.ki_setBack ho (by omega) (by rw [List.size_toArray, ← hl]; exact h3) (by omega) (by rw [hk]; exact ⟨_, I', q⟩)

/-! ### slices -/
theorem slice_bounds (lo hi : Option Int) (n : Nat) : (sliceBounds lo hi none n).1 = ((HT.sIx n 0 lo : Nat) : Int) ∧ (sliceBounds lo hi none n).2.1 = ((HT.sIx n n hi : Nat) : Int) ∧ (sliceBounds lo hi none n).2.2 = 1 := by
  refine ⟨?_, ?_, rfl⟩
  · cases lo with
    | none => simp [sliceBounds, HT.sIx]
    | some i =>
      simp only [sliceBounds, HT.sIx, Option.getD_none, show (1 : Int) > 0 by decide, if_true]
      by_cases h : i < 0
      · simp only [h, if_true] <;> omega
      · simp only [h, if_false] <;> omega
  · cases hi with
    | none => simp [sliceBounds, HT.sIx]
    | some i =>
      simp only [sliceBounds, HT.sIx, Option.getD_none, show (1 : Int) > 0 by decide, if_true]
      by_cases h : i < 0
      · simp only [h, if_true] <;> omega
      · simp only [h, if_false] <;> omega
theorem slicePick_cut (its : List Value) (lo hi : Option Int) : slicePick its.toArray lo hi none = ((its.drop (HT.sIx its.length 0 lo)).take (HT.sIx its.length its.length hi - HT.sIx its.length 0 lo)).toArray := by
  obtain ⟨h1, h2, h3⟩ := slice_bounds lo hi its.toArray.size
  unfold slicePick
  rw [h1, h2, h3]
  simp only [sliceRange_one, pick_run, List.size_toArray] <;> rfl
/-- xs[lo:hi] of a list: a new list -/
def rSlL (K : PySem.W.Frag) : V → Option Int → Option Int → Hp → VK → Prop := fun x lo hi H Q => ∃ a xs, x = .ref a ∧ SqL K H a xs ∧ ∀ p, H p = none → Q (.ref p) (upd H p (.lst (cutV xs lo hi)))
theorem sl_list : SlR X (rSlL X.K) := by
  intro pins s σ H x v vl vu lo hi sl Q I rx hs pl pu h
  obtain ⟨a, xs, rfl, hx, q⟩ := h
  cases rx
  obtain ⟨its, r, ht, hz⟩ := I.list hx
  have hlen := r.length
  refine ⟨"list", _, slot_list_getitem.lookup, ht.isList.typeIs, ?_⟩
  refine wpAny_getItem_list_slice ht.isList hs pl pu .none (by simp) ?_ (by rw [List.size_toArray] <;> omega)
  rw [slicePick_cut, ← hlen]
  refine ⟨.ref s.heap.objs.size, _, I.laid (t' := s.toks) (o := .lst (cutV xs lo hi)) (fun b ob q => Heap.get?_push_of_some _ q) (Nat.le_refl _) ?_, rfl, q _ (I.hok.fresh (Nat.le_refl _))⟩
  exact ⟨Nat.le_trans (cutV_length xs lo hi) hz, _, 0, (r.drop (HT.sIx xs.length 0 lo)).take (HT.sIx xs.length xs.length hi - HT.sIx xs.length 0 lo), Heap.get?_push_size _ rfl⟩

/-! ### in, not in: flat items -/
def flatV : V → Bool
  | .non => true
  | .bl _ => true
  | .int _ => true
  | .str _ => true
  | _ => false
/-- == of flat values -/
def eqV : V → V → Bool
  | .non, .non => true
  | .bl a, .bl b => a == b
  | .bl a, .int b => (if a then 1 else 0) == b
  | .int a, .bl b => a == (if b then 1 else 0)
  | .int a, .int b => a == b
  | .str a, .str b => a == b
  | _, _ => false
/-- the items' answers, read off the values (a value's own answer does not lean on its token) -/
def eqU (x : V) (u : Value) : Bool := match u with
  | .none => eqV .non x
  | .bool b => eqV (.bl b) x
  | .int i _ => eqV (.int i) x
  | .str z _ => eqV (.str z) x
  | _ => false
def inV (x : V) (xs : List V) : Bool := xs.any fun y => eqV y x
/-- x in a list or tuple of flat items -/
def rIn (K : PySem.W.Frag) (neg : Bool) : R2 := fun x y H Q => ∃ p xs, y = .ref p ∧ (SqL K H p xs ∨ SqT K H p xs) ∧ flatV x = true ∧ xs.all flatV = true ∧ Q (.bl (if neg then !inV x xs else inV x xs)) H
theorem op_notIn_str : OpR X (compareOp .NotIn) (fun x y H Q => ∃ i j, x = .str i ∧ y = .str j ∧ Q (.bl (!(!(Builtin.Str.occurrences j i 0 j.length 1).isEmpty))) H) := by
  intro pins s σ H x y v u Q I rx ry h
  obtain ⟨i, j, rfl, rfl, q⟩ := h
  obtain ⟨t, rfl⟩ := rx
  obtain ⟨t', rfl⟩ := ry
  exact notIn_str ⟨.bl _, H, I, rfl, q⟩

/-! ### len, list(x), tuple(x) of any list or tuple that is read -/
theorem call_len_seq : CallR X (.builtin "len") (fun xs H Q => ∃ p ys, xs = [.ref p] ∧ (SqL X.K H p ys ∨ SqT X.K H p ys) ∧ Q (.int ys.length) H) := by
  intro pins s σ H xs us Q I r h
  obtain ⟨p, ys, rfl, hq, q⟩ := h
  obtain ⟨u, rfl, rx⟩ := vals1 r
  cases rx
  have hn := line63
  rcases hq with hq | hq
  · obtain ⟨its, r', pl, hz⟩ := I.list hq
    have hlen := r'.length
    exact Calls.call_len_list pl.isList (by simp only [List.size_toArray] <;> omega) ⟨.int ys.length, H, I.tok _, ⟨s.toks + 1, by rw [List.size_toArray, hlen]⟩, q⟩
  · obtain ⟨its, r', pl, hz⟩ := I.tuple hq
    have hlen := r'.length
    exact len_tuple pl (by simp only [List.size_toArray] <;> omega) ⟨.int ys.length, H, I.tok _, ⟨s.toks + 1, by rw [List.size_toArray, hlen]⟩, q⟩
theorem call_len_str : CallR X (.builtin "len") (fun xs H Q => ∃ z, xs = [.str z] ∧ z.length ≤ sizeLine ∧ Q (.int z.length) H) := by
  intro pins s σ H xs us Q I r h
  obtain ⟨z, rfl, hz, q⟩ := h
  obtain ⟨u, rfl, t, rfl⟩ := vals1 r
  have hn := line63
  exact len_str (by omega) ⟨.int z.length, H, I.tok _, ⟨_, rfl⟩, q⟩
theorem call_list_of : CallR X (.type "list") (fun xs H Q => ∃ p ys, xs = [.ref p] ∧ (SqL X.K H p ys ∨ SqT X.K H p ys) ∧ ∀ l, H l = none → Q (.ref l) (upd H l (.lst ys))) := by
  intro pins s σ H xs us Q I r h
  obtain ⟨p, ys, rfl, hq, q⟩ := h
  obtain ⟨u, rfl, rx⟩ := vals1 r
  cases rx
  have fin : ∀ (its : List Value), Vals ys its → ys.length ≤ sizeLine → ∀ (h' : Heap) (c' : Nat), (∀ b o', s.heap.get? b = some o' → h'.get? b = some o') →
      h'.get? s.heap.objs.size = some { cls := .type "list", dict := none, data := .seq its.toArray c', slots := #[] } → EP X pins σ Q (.ref s.heap.objs.size) { s with heap := h' } := fun its r' hz h' c' kp e =>
    ⟨.ref s.heap.objs.size, _, I.laid (t' := s.toks) kp (Nat.le_refl _) (show ObjOk X.prog X.w _ h' _ (.lst ys) from ⟨hz, its, c', r', e⟩), rfl, q _ (I.hok.fresh (Nat.le_refl _))⟩
  rcases hq with hq | hq
  · obtain ⟨its, r', pl, hz⟩ := I.list hq
    have hlen := r'.length
    obtain ⟨o, ho, hc, n, hd⟩ := pl.isList
    exact call_list_seq p (.inl rfl) ho hc hd (fun h' c' kp e => fin its r' hz h' c' kp e) (by simp only [List.size_toArray] <;> omega)
  · obtain ⟨its, r', pl, hz⟩ := I.tuple hq
    have hlen := r'.length
    obtain ⟨o, ho, hc, n, hd⟩ := pl
    exact call_list_seq p (.inr rfl) ho hc hd (fun h' c' kp e => fin its r' hz h' c' kp e) (by simp only [List.size_toArray] <;> omega)
theorem call_tuple_of : CallR X (.type "tuple") (fun xs H Q => ∃ p ys, xs = [.ref p] ∧ ((SqL X.K H p ys ∧ ∀ l, H l = none → Q (.ref l) (upd H l (.tup ys))) ∨ (SqT X.K H p ys ∧ Q (.ref p) H))) := by
  intro pins s σ H xs us Q I r h
  obtain ⟨p, ys, rfl, h⟩ := h
  obtain ⟨u, rfl, rx⟩ := vals1 r
  cases rx
  rcases h with ⟨hq, q⟩ | ⟨hq, q⟩
  · obtain ⟨its, r', pl, hz⟩ := I.list hq
    have hlen := r'.length
    refine call_tuple_list pl.isList (fun h' kp => ?_) (by simp only [List.size_toArray] <;> omega)
    have I1 : Inv X pins σ H { s with heap := h' } := I.kept (t' := s.toks) kp
    have I2 : Inv X pins σ (upd H h'.objs.size (.tup ys)) { s with heap := h'.push { cls := .type "tuple", data := .seq its.toArray } } :=
      I1.laid (t' := s.toks) (fun b o e => Heap.get?_push_of_some _ e) (Nat.le_refl _) (show ObjOk X.prog X.w _ _ _ (.tup ys) from ⟨hz, its, r', IsTup.new _ _⟩)
    exact ⟨.ref h'.objs.size, _, I2, rfl, q _ (I1.hok.fresh (Nat.le_refl _))⟩
  · obtain ⟨its, r', pl, hz⟩ := I.tuple hq
    exact call_tuple_same pl ⟨.ref p, H, I, rfl, q⟩

/-! ### the call of a builtin's method: o.m(..) -/
/-- the value is of that builtin type -/
def tyV (K : PySem.W.Frag) (T : String) (x : V) (H : Hp) : Prop := match x with
  | .str _ => T = "str"
  | .int _ => T = "int"
  | .ref p => (T = "list" ∧ ∃ xs, SqL K H p xs) ∨ (T = "tuple" ∧ ∃ o, K.lookup p = some o ∧ o.cls = .type "tuple" ∧ o.dict = none) ∨
      (T = "dict" ∧ ((∃ kvs, H p = some (.dK kvs)) ∨ ∃ kvs, H p = some (.dT kvs))) ∨ (T = "set" ∧ ∃ S n, H p = some (.set S n))
  | _ => False
theorem tyV_is {pins : List (Addr × Obj)} {σ : St} {H : Hp} {s : Shared} {T : String} {x : V} {v : Value} (I : Inv X pins σ H s) (r : RelV x v) (ty : tyV X.K T x H) :
    s.TypeIs v T ∧ ∀ a, v = .ref a → ∃ ob, s.heap.get? a = some ob ∧ ob.dict = none := by
  cases x with
  | str z =>
    obtain ⟨t, rfl⟩ := r
    cases (show T = "str" from ty)
    exact ⟨typeIs_str s z t, fun _ e => nomatch e⟩
  | int i =>
    obtain ⟨t, rfl⟩ := r
    cases (show T = "int" from ty)
    exact ⟨typeIs_int s i t, fun _ e => nomatch e⟩
  | ref p =>
    cases r
    rcases ty with ⟨rfl, xs, hq⟩ | ⟨rfl, o, hk, hc, hd⟩ | ⟨rfl, hk⟩ | ⟨rfl, S, n, hk⟩
    · obtain ⟨its, _, pl, _⟩ := I.list hq
      refine ⟨pl.isList.typeIs, fun a e => ?_⟩
      cases e
      obtain ⟨o, n, e, c, hd, _⟩ := pl
      exact ⟨o, e, hd⟩
    · refine ⟨⟨o, I.kIn p o hk, hc⟩, fun a e => ?_⟩
      cases e
      exact ⟨o, I.kIn _ o hk, hd⟩
    · have z : ∃ o, s.heap.get? p = some o ∧ o.ExactDict := by
        rcases hk with ⟨kvs, hk⟩ | ⟨kvs, hk⟩
        · obtain ⟨_, _, _, _, o, _, _, e, ex, _⟩ := I.hok p _ hk
          exact ⟨o, e, ex⟩
        · obtain ⟨_, _, _, _, o, _, _, e, ex, _⟩ := I.hok p _ hk
          exact ⟨o, e, ex⟩
      obtain ⟨o, e, ex⟩ := z
      refine ⟨⟨o, e, ex.1⟩, fun a e2 => ?_⟩
      cases e2
      exact ⟨o, e, ex.2.1⟩
    · obtain ⟨o, _, _, _, e, ex, _⟩ := I.hok p _ hk
      refine ⟨⟨o, e, ex.1⟩, fun a e2 => ?_⟩
      cases e2
      exact ⟨o, e, ex.2.1⟩
  | _ => exact False.elim ty
def tBM0 (K : PySem.W.Frag) (T : String) (r : V → List V → Hp → VK → Prop) (to : TE) : TE := fun σ H Q => to σ H fun x H1 => tyV K T x H1 ∧ r x [] H1 Q
def tBM (K : PySem.W.Frag) (T : String) (r : V → List V → Hp → VK → Prop) (to : TE) (t : TA) : TE := fun σ H Q => to σ H fun x H1 => tyV K T x H1 ∧ t σ H1 fun xs H2 => r x xs H2 Q
variable {o e : Expr} {es : List Expr} {to : TE} {t : TA} {name : Str} {apos cpos : Pos} {T id : String} {r : V → List V → Hp → VK → Prop}
theorem pe_bm (pa : PlainAttrs T) (slot : Slot T name id) (hty : typeOf (.builtin id) = pure (.type "method_descriptor")) (hm : MtR X id r) (ho : PE X o to) (ha : PA X (e :: es) t)
    (hbase : attributeBase o name X.env (eval o X.env) = eval o X.env := by rfl)
    (hfew : ((backTo cpos (starEach (e :: es) X.env)).all (fun x => !x.1) && (backToKw cpos (keywordEach [] X.env)).all (fun x => x.1.isSome)
      && decide ((e :: es).length + ([] : List Keyword).length + (if ([] : List Keyword).isEmpty then 0 else 1) < 30)) = true := by rfl)
    (hline : (apos.endLine == cpos.line) = true := by rfl) (hs : starEach (e :: es) X.env = (false, eval e X.env) :: starEach es X.env := by rfl) (hplain : (backTo cpos (starEach es X.env)).any (·.1) = false := by rfl) :
    PE X (.Call (.Attribute o name apos) (e :: es) [] cpos) (tBM X.K T r to t) := by
  intro pins s σ H Q I h
  refine wpAny_Call_method_late hbase hfew hline rfl (thn (ho pins s σ H _ I h) fun v s1 ⟨x, H1, I1, r1, ty, q1⟩ => ?_)
  obtain ⟨h1, h2⟩ := tyV_is I1 r1 ty
  refine ⟨T, id, pa, slot, hty, h1, h2, ?_⟩
  have hA := ha cpos pins s1 σ H1 _ I1 q1
  rw [hs] at hA ⊢
  refine Calls.callWith_builtin (by show (false || (backTo cpos (starEach es X.env)).any (·.1)) = false; rw [hplain] <;> rfl) (Calls.evalArgs_plain ?_)
  exact thn hA fun us s2 ⟨vs, H2, I2, r2, q2⟩ => hm pins s2 σ H2 x vs v us Q I2 r1 r2 q2
/- xs.append(e), list.index on a module's tuple .. are MtR facts of 06m -/
end
end L2

namespace L2
open PySem PySem.Spec PyProof.Rows

def MtM (X : Cx) (id : String) (r : V → List V → Hp → VK → Prop) : Prop :=
  ∀ (pins : List (Addr × Obj)) (s : Shared) (σ : St) (H : Hp) (x : V) (xs : List V) (v : Value) (us : List Value) (Q : VK), Inv X pins σ H s → RelV x v → Vals xs us → r x xs H Q →
    wpAny (model X.prog X.w) X.A (call (.builtin id) (v :: us)) (EP X pins σ Q) X.xe s

/-! ### lists of values -/
theorem Vals.one : ∀ {x : V} {us : List Value}, Vals [x] us → ∃ u, us = [u] ∧ RelV x u
  | _, _, .cons r .nil => ⟨_, rfl, r⟩
theorem Vals.two : ∀ {x y : V} {us : List Value}, Vals [x, y] us → ∃ u v, us = [u, v] ∧ RelV x u ∧ RelV y v
  | _, _, _, .cons r (.cons q .nil) => ⟨_, _, rfl, r, q⟩

section
variable {X : Cx} {pins : List (Addr × Obj)} {σ : St} {H : Hp} {s : Shared} {l b : Addr} {xs ys zs : List V}

/-! ### the two steps: a tracked list is rewritten, a new list is laid -/
theorem Inv.lset {its its' : List Value} {n : Nat} {f : Array Value → Array Value} {t' : Nat} (I : Inv X pins σ H s) (hH : H l = some (.lst xs))
    (e : s.heap.get? l = some { cls := .type "list", data := .seq its.toArray n }) (hf : f its.toArray = its'.toArray) (hv : Vals ys its') (hz : ys.length ≤ sizeLine) :
    Inv X pins σ (upd H l (.lst ys)) { s with heap := s.heap.update l (Obj.mapSeq f), toks := t' } := by
  have q := PySem.IsL.update e f
  rw [hf] at q
  refine I.write (x := l) (e := l) (by rw [hH]; exact trivial) (.inl rfl) (fun b' u hb hu => (Heap.get?_update_other s.heap (Obj.mapSeq f) (Ne.symm hb)).trans hu) ⟨_, q⟩ ?_
  exact ⟨hz, its', _, hv, q⟩
theorem Inv.lnew {its : List Value} {t' : Nat} (I : Inv X pins σ H s) (hv : Vals ys its) (hz : ys.length ≤ sizeLine) :
    Inv X pins σ (upd H s.heap.objs.size (.lst ys)) { s with heap := s.heap.push { cls := .type "list", data := .seq its.toArray }, toks := t' } :=
  I.laid (fun _ _ q => Heap.get?_push_of_some _ q) (Nat.le_refl _) ⟨hz, its, 0, hv, Heap.get?_push_size _ rfl⟩
theorem Inv.fresh (I : Inv X pins σ H s) : H s.heap.objs.size = none := I.hok.fresh (Nat.le_refl _)
theorem Inv.lstM (I : Inv X pins σ H s) (hH : H l = some (.lst xs)) : xs.length ≤ sizeLine ∧ ∃ (its : List Value) (n : Nat), Vals xs its ∧ xs.length = its.length ∧ s.heap.get? l = some { cls := .type "list", data := .seq its.toArray n } := by
  obtain ⟨z, its, n, r, e⟩ := I.hok l _ hH
  exact ⟨z, its, n, r, r.length, e⟩

end

section
variable {X : Cx}

/-! ### methods -/
def rAppend : V → List V → Hp → VK → Prop := fun x vs H Q => ∃ l xs y, x = .ref l ∧ vs = [y] ∧ H l = some (.lst xs) ∧ xs.length < sizeLine ∧ Q .non (upd H l (.lst (xs ++ [y])))
theorem mt_append : MtM X "list.append" rAppend := by
  intro pins s σ H x vs v us Q I rx rv h
  obtain ⟨l, xs, y, rfl, rfl, hH, hz, q⟩ := h
  cases rx
  obtain ⟨u, rfl, ru⟩ := rv.one
  obtain ⟨z, its, n, r, hl, e⟩ := I.lstM hH
  refine call_meets F.slot_list_append ⟨_, e, rfl⟩ F.entry_list_append (F.args_list_append_2 _ _) (PySem.list_append l its.toArray n u (by rw [List.size_toArray]; omega)) ⟨e, ?_⟩
  refine ⟨.non, _, I.lset (its' := its ++ [u]) hH e (by simp) (r.append (.cons ru .nil)) ?_, rfl, q⟩
  rw [List.length_append, List.length_singleton]
  omega

def rExtend : V → List V → Hp → VK → Prop := fun x vs H Q => ∃ l b xs zs, x = .ref l ∧ vs = [.ref b] ∧ H l = some (.lst xs) ∧ H b = some (.lst zs) ∧ xs.length + zs.length ≤ sizeLine ∧ Q .non (upd H l (.lst (xs ++ zs)))

def rPop : V → List V → Hp → VK → Prop := fun x vs H Q => ∃ l xs y, x = .ref l ∧ vs = [] ∧ H l = some (.lst xs) ∧ xs[xs.length - 1]? = some y ∧ Q y (upd H l (.lst xs.dropLast))

def rPopAt : V → List V → Hp → VK → Prop := fun x vs H Q => ∃ l xs i k y, x = .ref l ∧ vs = [.int i] ∧ H l = some (.lst xs) ∧ -(2 ^ 63) ≤ i ∧ i < 2 ^ 63 ∧ seqIndex? i xs.length = some k ∧ xs[k]? = some y ∧ Q y (upd H l (.lst (xs.eraseIdx k)))

def rReverse : V → List V → Hp → VK → Prop := fun x vs H Q => ∃ l xs, x = .ref l ∧ vs = [] ∧ H l = some (.lst xs) ∧ Q .non (upd H l (.lst xs.reverse))

def rClear : V → List V → Hp → VK → Prop := fun x vs H Q => ∃ l xs, x = .ref l ∧ vs = [] ∧ H l = some (.lst xs) ∧ Q .non (upd H l (.lst []))

/-! ### list + list, list += list, list * int -/
def rCat : R2 := fun x y H Q => ∃ l b xs zs, x = .ref l ∧ y = .ref b ∧ H l = some (.lst xs) ∧ H b = some (.lst zs) ∧ xs.length + zs.length ≤ sizeLine ∧ ∀ p, H p = none → Q (.ref p) (upd H p (.lst (xs ++ zs)))
theorem op_cat : OpR X (binaryOp .Add) rCat := by
  intro pins s σ H x y v u Q I rx ry h
  obtain ⟨l, b, xs, zs, rfl, rfl, hH, hB, hz, q⟩ := h
  cases rx
  cases ry
  obtain ⟨z, its, n, r, hl, e⟩ := I.lstM hH
  obtain ⟨z2, its2, n2, r2, hl2, e2⟩ := I.lstM hB
  refine PySem.P.add_list e e2 ?_ (by rw [List.size_toArray, List.size_toArray]; omega)
  have ea : its.toArray ++ its2.toArray = (its ++ its2).toArray := by simp
  rw [ea]
  exact ⟨.ref _, _, I.lnew (t' := s.toks) (r.append r2) (by rw [List.length_append]; omega), rfl, q _ I.fresh⟩
/-- a list times an int (a negative one is nothing) -/
def rRep : R2 := fun x y H Q => ∃ l k xs, x = .ref l ∧ y = .int k ∧ H l = some (.lst xs) ∧ -(2 ^ 63) ≤ k ∧ k < 2 ^ 63 ∧ xs.length * k.toNat ≤ sizeLine ∧
  ∀ p, H p = none → Q (.ref p) (upd H p (.lst (List.replicate k.toNat xs).flatten))

/-! ### del xs[i] -/
end

/-! ### xs[a:b] = ys -/
section
variable {prog : Program} {w : World} {A : Around} {E : Value → Shared → Prop} {s : Shared}
end

section
variable {X : Cx}
end
end L2

namespace Att
open PySem PySem.W PySem.Calls PyProof.Rows

/-! ### the script -/
theorem ints_of_wellAll {P : Params} {h : Heap} : ∀ (ns : List Int) (vs : List Value), WellAll P h vs (ns.map WData.int) → IntsAre vs ns := by
  intro ns
  induction ns with
  | nil =>
    intro vs w
    rw [List.map_nil] at w
    cases w
    exact .nil
  | cons n ns ih =>
    intro vs w
    rw [List.map_cons] at w
    cases w with
    | cons a b =>
      cases a
      exact .cons _ _ (ih _ b)

theorem script_of {l : OpenLaw} {n : Nat} (hn : l.most = some n) {P : Params} {h : Heap} {args : List WData} {vals : List Value}
    (hpre : l.row.toRowW.claim.pre args = true) (hwl : WellAll P h vals args) :
    ∃ a vs ns, vals = [Value.ref a] ∧ args = [WData.list (ns.map WData.int)] ∧ h.get? a = some { cls := .type "list", data := .seq vs.toArray } ∧ IntsAre vs ns ∧ ns.length ≤ n := by
  have hsh : WShape.hasAll [] args [.list .int] = true := (pre_splitW hpre).1
  have hc : l.pre.holds [] { args := args } = true := (pre_splitW hpre).2
  obtain ⟨d, r, rfl, h1, h2⟩ := hasAllW_cons hsh
  obtain rfl := hasAllW_nil h2
  obtain ⟨xs, rfl, h3⟩ := hasW_list h1
  obtain ⟨ns, rfl⟩ := items_int h3
  have hlen : ns.length ≤ n := by
    unfold OpenLaw.pre at hc
    have h4 : (WTm.not (.lt (.lit (.int (n : Int))) (.len (.arg 0)))).holds [] { args := [.list (ns.map .int)] } = true := by
      have h4 := (holds_andW hc).1
      rw [hn] at h4
      exact h4
    have h5 := condW_of h4 (w_not (w_lt w_lit (w_len_list (w_arg rfl))))
    rw [List.length_map] at h5
    refine Nat.le_of_not_lt fun q => ?_
    have q' : (n : Int) < ((ns.length : Nat) : Int) := by omega
    first
      | (rw [decide_eq_true q'] at h5; exact absurd h5 (by decide))
      | (simp at h5; omega)
  cases hwl with
  | cons w1 w2 =>
    cases w2
    cases w1 with
    | list ho hall => exact ⟨_, _, ns, rfl, rfl, ho, ints_of_wellAll ns _ hall, hlen⟩

theorem post_true (l : OpenLaw) (args : List WData) : l.row.toRowW.claim.post args (.bool true) args = true :=
  postW_of (r := l.row.toRowW) (X := (true == true))
    (show WShape.has [] (.bool true) .bool = true by first | rfl | decide | simp [WShape.has, WShape.arms, WShape.armsAll])
    (show (WTm.eq .res (.lit (.bool true))).value [] { args := args, res := some (.bool true), after := args } = some (.bool (true == true)) from w_eq_bool (w_res rfl) w_lit) rfl

/-! ### the attachment: holds_open's last premise (the goal 'hc' behind k_head) from a wpAny of the law's body -/

/-- the same from a codeAny of the CALL (for a layer whose function contracts speak of calls) -/
theorem attach_call {l : OpenLaw} {n : Nat} {q : Program} {loose : List Str} {XP : (Str → Option Value) → Heap → Prop} {YP : World → Heap → Prop} {d : DefRec}
    (hn : l.most = some n) (hdf : d.params.defaults = [])
    (call : ∀ (w : World) (s₀ s₁ : Shared) (mg mb : Str → Option Value) (fa : Addr) (o : Obj) (pm cd doc : Value) (a : Addr) (vs : List Value) (ns : List Int),
      Ground q loose [] XP w s₀ mg mb s₁.heap → YP w s₁.heap →
      s₁.heap.get? fa = some o → o.data = .func (docDef d.name d.params d.body d.scope pm cd doc) → s₁.heap.CodeRec cd d.name → mg d.name = some (.ref fa) →
      s₁.heap.get? a = some { cls := .type "list", data := .seq vs.toArray } → IntsAre vs ns → ns.length ≤ n → s₁.gens = #[] →
      codeAny (model l.prog w) callerA (.call (.ref fa) ⟨[.ref a], []⟩) (fun r s' => r = .ok (.ret (.bool true)) ∧ OldK s₁.heap s'.heap ∧ s'.os = s₁.os ∧ AllBare s'.gens) s₁) :
    WalkO q loose XP YP l.row.toRowW d [] (fun f vs => PySem.call f vs) := by
  intro w s₀ s₁ mg mb G Y fa o pm cd doc dV kV ho hd hcd hD hmg hg args vals as hpre hlay hrd hwl hlo
  obtain rfl : dV = .none := Dflts.none hD hdf
  obtain rfl : kV = .none := Dflts.noKw hD
  obtain ⟨a, vs, ns, rfl, rfl, hobj, hints, hlen⟩ := script_of hn hpre hwl
  refine enter_call (codeAny_mono (call w s₀ s₁ mg mb fa o pm cd doc a vs ns G Y ho (fd_plain hd) hcd hmg hobj hints hlen hg) fun r s' hq => ?_)
  obtain ⟨rfl, h2, h3, h4⟩ := hq
  exact ⟨.inl ⟨.bool true, .bool true, [], rfl, fun _ => rfl, .bool true, post_true l _, fun _ => ⟨List.Pairwise.nil, fun _ hm => (nomatch hm)⟩⟩, h2, h3, h4⟩


/-! ### rules over ANY heap (no ledger) from facts about the written part K: the library's own take a ledger (News) for what they write -/
section
variable {prog : Program} {w : World} {A : Around} {E : Value → Shared → Prop} {s : Shared} {K : Frag}





/-! the whole heap as the ledger: makes every rule that writes through a ledger a rule over any heap -/
def noObjs (h : Heap) : Heap := { h with objs := #[] }
def ledger (h : Heap) (L d : Addr) : List (Addr × Obj) := (List.range h.objs.size).filterMap fun a => if a = L ∨ a = d then none else (h.get? a).map fun o => (a, o)

end
end Att

namespace L2
open PySem PySem.Spec PyProof.Rows

theorem vals_ints : ∀ {vs : List Value} {ns : List Int}, IntsAre vs ns → Vals (ns.map V.int) vs
  | _, _, .nil => .nil
  | _, _, .cons n t h => .cons ⟨t, rfl⟩ (vals_ints h)

/-- nothing is tracked but the script, known to the object (or it is an object of the module) -/
def Only (H : Hp) : Prop := ∀ b, H b = none ∨ ∃ o xs, H b = some (.frz o (.lst xs))

/-- THE HEAD: the law's promise, at the heap behind the top. F, the promise of the law's def, may use that base is part of the heap (so K.In base, base.Ns mainGlobals mg stand in Mod) -/
theorem law_call {P : Program} {w : World} {K : PySem.W.Frag} {mg mb : Str → Option Value} {CX : CXT} {k : Nat} {fa a : Addr} {fd : FuncData} {x : Str} {sp : Sp} {s₁ : Shared} {vs : List Value} {ns : List Int}
    (KX : K.In s₁.heap) (hns : s₁.heap.Ns mainGlobals mg) (hb : s₁.heap.Ns builtinsNs mb) (hbb : ∀ x : Str, x ≠ "__name__" → mb x = bootBuiltins x) (hlim : s₁.heap.NoLimit) (hg : s₁.gens = #[])
    (ha : s₁.heap.get? a = some { cls := .type "list", data := .seq vs.toArray }) (hi : IntsAre vs ns) (hl : ns.length ≤ sizeLine) (hr : Room k callerA)
    (F : ∀ base : Heap, K.In base → base.Ns mainGlobals mg → FnOk P w K mg base CX k fa fd [x] sp) (hbind : ∀ (s : Shared) (u : Value), BindsTo s fd ⟨[u], []⟩ [(x, u)])
    (hsp : ∀ H : Hp, Only H → SqL K H a (ns.map V.int) → sp [.ref a] H (fun v _ => v = .bl true) fun _ _ _ => False)
    (hCX : ∀ H e s', CX [] H s₁ (fun _ _ _ => False) e s' → False) :
    codeAny (model P w) callerA (.call (.ref fa) ⟨[.ref a], []⟩) (fun r s' => r = .ok (.ret (.bool true)) ∧ OldK s₁.heap s'.heap ∧ s'.os = s₁.os ∧ AllBare s'.gens) s₁ := by
  have rv := vals_ints hi
  have lenV := hi.length
  -- from an abstract heap in which nothing but the script may be tracked
  have core : ∀ H : Hp, Only H → SqL K H a (ns.map V.int) → HOk P w H s₁.heap → (∀ b, H b ≠ none → b = a) → (H a ≠ none → K.lookup a = none) →
      codeAny (model P w) callerA (.call (.ref fa) ⟨[.ref a], []⟩) (fun r s' => r = .ok (.ret (.bool true)) ∧ OldK s₁.heap s'.heap ∧ s'.os = s₁.os ∧ AllBare s'.gens) s₁ := by
    intro H hO hS hok hA hK
    have base_of : ∀ {b : Addr} {o : Obj}, s₁.heap.get? b = some o → H b = none → (hidT s₁.heap H).get? b = some o := fun e n => hidT_get e n
    have noA : ∀ {b : Addr} {o : Obj} {es : Array DictEntry} {ep : Nat}, s₁.heap.get? b = some o → o.data = .dict es ep → H b = none := fun {b o es ep} e d => by
      cases q : H b with
      | none => rfl
      | some u =>
        have e' : b = a := hA b (by rw [q]; simp)
        subst e'
        rw [ha] at e; cases e
        have d' : Data.seq vs.toArray _ = Data.dict es ep := d
        cases d'
    have nsK : ∀ {b : Addr} {m : Str → Option Value}, s₁.heap.Ns b m → (hidT s₁.heap H).Ns b m := fun {b m} ⟨o, es, ep, e, d, r⟩ => ⟨o, es, ep, base_of e (noA e d), d, r⟩
    have hKb : K.In (hidT s₁.heap H) := fun b o e => base_of (KX b o e) (by
      cases q : H b with
      | none => rfl
      | some u =>
        have e' : b = a := hA b (by rw [q]; simp)
        subst e'
        rw [hK (by rw [q]; simp)] at e; cases e)
    have hM : Mod K mg (hidT s₁.heap H) := ⟨hKb, nsK hns, ⟨mb, nsK hb, hbb⟩, let ⟨mc, h1, h2⟩ := hlim; ⟨mc, nsK h1, h2⟩⟩
    have e0 : Env0 P w K mg (hidT s₁.heap H) callerA [] s₁ H := ⟨rfl, hM, fun b o e => of_hidT e, Nat.le_of_eq (hidT_size _ _), trivial, fun b hb => absurd (show b ∈ ([] : List Addr) from hb) (by simp), hok, .of_eq hg⟩
    refine codeAny_mono ((F _ hKb (nsK hns)).run callerA [] s₁ H ⟨[.ref a], []⟩ [.ref a] [.ref a] _ _ hr e0 (hbind s₁ (.ref a)) (.cons rfl .nil) (hsp H hO hS)) fun r s' h => ?_
    cases r with
    | error e => exact (hCX H e s' h).elim
    | ok fl =>
      cases fl with
      | next => exact False.elim h
      | brk => exact False.elim h
      | cont => exact False.elim h
      | ret u =>
        obtain ⟨v, H', os, bare, un, hok', r', q⟩ := h
        have q' : v = .bl true := q
        subst q'
        obtain rfl : u = Value.bool true := r'
        refine ⟨rfl, OldK.of_keep fun b o e => ?_, os, bare⟩
        cases q : H b with
        | none => exact un.keep b o e q (by intro z; exact absurd (show b ∈ ([] : List Addr) from z) (by simp)) (by simp)
        | some u =>
          rcases hO b with z | ⟨ob, xs, z⟩
          · rw [q] at z; cases z
          · have z2 := un.frzs b ob _ z
            obtain ⟨e1, _⟩ := hok b _ z
            obtain ⟨e2, _⟩ := hok' b _ z2
            rw [e] at e1; cases e1
            exact e2
  cases hk : K.lookup a with
  | some o =>
    -- the script is one of the module's own objects
    have e := KX a o hk
    rw [ha] at e
    cases e
    refine core (fun _ => none) (fun _ => .inl rfl) (.inr ⟨_, vs.toArray, _, hk, rfl, rfl, rfl, by rw [List.size_toArray, lenV]; exact hl, by simpa using rv⟩) (fun b u z => by have z' : (none : Option HO) = some u := z; cases z') (fun b z => absurd rfl z) fun z => absurd rfl z
  | none =>
    refine core (fun b => if b = a then some (.frz { cls := .type "list", data := .seq vs.toArray } (.lst (ns.map V.int))) else none) (fun b => ?_) (.inl (.inr ⟨{ cls := .type "list", data := .seq vs.toArray }, if_pos rfl⟩)) (fun b u z => ?_) (fun b z => ?_) fun _ => hk
    · by_cases hb : b = a
      · exact .inr ⟨_, _, if_pos hb⟩
      · exact .inl (if_neg hb)
    · by_cases hb : b = a
      · have z' := (if_pos hb).symm.trans z
        cases z'
        subst hb
        exact ⟨ha, by rw [List.length_map]; exact hl, vs, _, rv, ha⟩
      · have z' := (if_neg hb).symm.trans z
        cases z'
    · by_cases hb : b = a
      · exact hb
      · exact absurd (if_neg hb) z
end L2

namespace L2
open PySem PySem.Spec PyProof.Rows

abbrev KOf {K : PySem.W.Frag} {h : Heap} (_ : K.In h) : PySem.W.Frag := K

/-- the goal that k_head leaves (case hc), from the law's promise. F gives the function object fd (K's own) once, then the promise over every base -/
theorem walk_of {l : PySem.W.OpenLaw} {n k : Nat} {q : Program} {loose : List Str} {XP : (Str → Option Value) → Heap → Prop} {YP : World → Heap → Prop} {d : DefRec} {K : Params → PySem.W.Frag} {CX : World → CXT} {sp : World → Sp} {x : Str}
    (hn : l.most = some n) (hn2 : n ≤ sizeLine) (hdf : d.params.defaults = []) (hr : Room k callerA)
    (hY : ∀ (w : World) (h : Heap), YP w h → (K w.params).In h)
    (F : ∀ (w : World) (mg : Str → Option Value) (fa : Addr) (h : Heap), (K w.params).In h → h.Ns mainGlobals mg → mg d.name = some (.ref fa) →
      ∃ fd : FuncData, (∀ (s : Shared) (u : Value), BindsTo s fd ⟨[u], []⟩ [(x, u)]) ∧
        ∀ base : Heap, (K w.params).In base → base.Ns mainGlobals mg → FnOk l.prog w (K w.params) mg base (CX w) k fa fd [x] (sp w))
    (hsp : ∀ (w : World) (H : Hp) (a : Addr) (ns : List Int), ns.length ≤ n → Only H → SqL (K w.params) H a (ns.map V.int) → sp w [.ref a] H (fun v _ => v = .bl true) fun _ _ _ => False)
    (hCX : ∀ (w : World) (H : Hp) (s : Shared) (e : Value) (s' : Shared), CX w [] H s (fun _ _ _ => False) e s' → False) :
    PySem.W.WalkO q loose XP YP l.row.toRowW d [] (fun f vs => PySem.call f vs) := by
  refine Att.attach_call hn hdf fun w s₀ s₁ mg mb fa o pm cd doc a vs ns G Y ho hd hcd hmg hobj hints hlen hg => ?_
  have KX := hY w _ Y
  obtain ⟨fd, hb, hF⟩ := F w mg fa _ KX G.T.g hmg
  exact law_call KX G.T.g G.T.b G.T.builtins G.T.nolimit hg hobj hints (Nat.le_trans hlen hn2) hr hF hb (fun H hO hS => hsp w H a ns hlen hO hS) fun H e s' => hCX w H s₁ e s'
end L2

/- THE LAST THEOREM (shape; LID, My.* are yours):
   My.Adr: a structure of the addresses that your layer names (classes, functions); My.Txt K t: a structure (Prop) of the equations over K;
   My.txt_mk : {K} {implicit addresses ..} (e1 : nsIn K mainGlobals "law" = some (some (.ref f))) (e2 : K.lookup f = some ⟨oc, od, .func (fnOf "law" "law" params body scope dV kV doc pm an cdv ct), sl⟩) (e3 : codeIn K cdv "law" = true) .. : ∃ t, My.Txt K t

set_option maxRecDepth 100000 in
set_option maxHeartbeats 0 in
theorem PySem.Challenge.cw_LID_holds : PySem.Challenge.rw_LID.Holds := by
  w_on; o_law; k_head; (case hw => w_witness2)
  k_fill
  refine L2.walk_of (l := PySem.Challenge.rw_LID) (n := 63) (k := 40) (x := "script") (CX := fun w => ..) (sp := fun _ => My.sp_law) rfl (by decide) rfl ⟨rfl, by decide, by decide⟩ (fun w h Y => PySem.W.kIn_of Y) ?F ?S ?C
  case F =>
    intro w mg fa h KX G hmg
    have T : ∃ t, My.Txt (L2.KOf KX) t := by
      dsimp only [L2.KOf]                          -- K must stand as «<heap const> w.params» for k_is
      refine' My.txt_mk ?e1 ?e2 ?e3 ..
      (case e1 => PySem.W.k_is)                    -- in the order: a name -> its address -> its object -> its parts
      (case e2 => PySem.W.k_is)
      ..
    obtain ⟨t, T⟩ := T
    have e0 := hmg.symm.trans (PySem.W.mg_of KX G T.law)
    cases e0                                       -- fa is the law's own address
    exact ⟨_, fun s u => .of_eq rfl, fun base kb nb => My.law_fn T kb nb⟩     -- if «.of_eq rfl» comes too early: refine' ⟨_, ?b, fun base kb nb => My.law_fn T kb nb⟩; exact fun s u => .of_eq rfl
  case S => exact fun w H a ns hl hO hS => ..
  case C => exact ..
(the tactic k_is has no namespace: write k_is) -/

/-! SHORT WORDS over the layer: a def of the text, its body, what a loop and a test want. -/
namespace L2
open PySem PySem.Spec PyProof.Rows

/-! ### the text by places -/
/-- the j-th statement of a class's body -/
def inClass (s : Stmt) (j : Nat) : Stmt := match s with
  | .ClassDef _ _ _ body _ _ _ _ _ _ _ => body.getD j (.Pass ⟨0, 0, 0, 0⟩)
  | _ => .Pass ⟨0, 0, 0, 0⟩
def defArgs (s : Stmt) : Arguments := match s with
  | .FunctionDef _ a _ _ _ _ _ _ _ _ => a
  | _ => { posonlyargs := [], args := [], vararg := none, kwonlyargs := [], kw_defaults := [], kwarg := none, defaults := [] }
def defBody (s : Stmt) : List Stmt := match s with
  | .FunctionDef _ _ b _ _ _ _ _ _ _ => b
  | _ => []
def defScope (s : Stmt) : Scope := match s with
  | .FunctionDef _ _ _ _ _ _ sc _ _ _ => sc
  | _ => { kind := .function, names := [], isGenerator := false, isCoroutine := false }

/-! ### no exception leaves a def -/
abbrev CX0 : CXT := fun _ _ _ _ _ _ => False
abbrev E0 : XK := fun _ _ _ => False
theorem pass0 {X : Cx} : Passes CX0 X E0 := fun _ _ _ _ _ _ _ h => h.elim

/-! ### a def (or method) of the text as it stands behind the top -/
structure Fun (K : PySem.W.Frag) (x qual : Str) (st : Stmt) (f : Addr) (fd : FuncData) : Prop where
  ex : ∃ (oc : Value) (od : Option Addr) (kV doc pm : Value) (an : Option Addr) (cdv ct : Value) (osl : Array (Option Value)),
    fd = PySem.W.fnOf x qual (defArgs st) (defBody st) (defScope st) .none kV doc pm an cdv ct ∧ K.lookup f = some ⟨oc, od, .func fd, osl⟩ ∧ PySem.W.codeIn K cdv qual = true
  kp : PySem.W.keepIn K (.ref f) = true
section
variable {P : Program} {w : World} {K : PySem.W.Frag} {mg : Str → Option Value} {base : Heap}
/-- THE RULE for a def: its body as a term of rules, and the reading of that term -/
theorem Fun.ok {x qual : Str} {st : Stmt} {f : Addr} {fd : FuncData} {N ps : List Str} {k : Nat} {sp : Sp} (F : Fun K x qual st f fd) (S : FnScope N ps (defScope st)) (len : ∀ vs H Q E, sp vs H Q E → vs.length = ps.length)
    (hbody : ∀ (cdv : Value) (A : Around) (outer : List Env) (s : Shared) (H : Hp) (vs : List V) (Q : VK) (E : XK), Room k (A.deeper (envOfC qual (defScope st) s.heap.objs.size f cdv)) → sp vs H Q E →
      ∃ t, PSs (cxOf CX0 P w K mg base N qual (defScope st) f cdv A outer s H E).nox (defBody st) t ∧ t { nx := fun _ H' => Q .non H', rt := Q } (start N vs) H) : FnOk P w K mg base CX0 (k + 1) f fd ps sp := by
  obtain ⟨oc, od, kV, doc, pm, an, cdv, ct, osl, rfl, lk, hcd⟩ := F.ex
  refine fn_of lk hcd S len fun A outer s H vs Q E hr hsp => ?_
  obtain ⟨t, h, q⟩ := hbody cdv A outer s H vs Q E hr hsp
  exact ⟨t, h.nox, q⟩
/-- how its arguments bind (no defaults): h is «fun _ _ _ _ _ _ us hl => match us, hl with | [_, _], _ => rfl», one _ a parameter -/
theorem Fun.binds {x qual : Str} {st : Stmt} {f : Addr} {fd : FuncData} {ps : List Str} (F : Fun K x qual st f fd)
    (h : ∀ (kV doc pm : Value) (an : Option Addr) (cdv ct : Value) (us : List Value), us.length = ps.length → bindArgs (PySem.W.fnOf x qual (defArgs st) (defBody st) (defScope st) .none kV doc pm an cdv ct) ⟨us, []⟩ = pure (ps.zip us)) : Binds K fd ps [] := by
  obtain ⟨oc, od, kV, doc, pm, an, cdv, ct, osl, rfl, lk, hcd⟩ := F.ex
  exact .all (h kV doc pm an cdv ct)
theorem fun_mk {x qual : Str} {st : Stmt} {f : Addr} {oc : Value} {od an : Option Addr} {osl : Array (Option Value)} {kV doc pm cdv ct : Value} (l : K.lookup f = some ⟨oc, od, .func (PySem.W.fnOf x qual (defArgs st) (defBody st) (defScope st) .none kV doc pm an cdv ct), osl⟩)
    (c : PySem.W.codeIn K cdv qual = true) (k : PySem.W.keepIn K (.ref f) = true) : Fun K x qual st f (PySem.W.fnOf x qual (defArgs st) (defBody st) (defScope st) .none kV doc pm an cdv ct) := ⟨⟨oc, od, kV, doc, pm, an, cdv, ct, osl, rfl, l, c⟩, k⟩
end
theorem hu_of {A : Around} {k : Nat} (hr : Room k A) : A.units + 1 < cLine := Nat.lt_of_le_of_lt (Nat.add_le_add_left (by decide : 1 ≤ 64) _) hr.units
theorem small1000 {n : Nat} (h : n ≤ 1000) : n < sizeLine := Nat.lt_of_le_of_lt h (by decide)

/-! ### expressions in short: the name that stands in the i-th slot -/
section
variable {X : Cx}
theorem pv (i : Nat) {x : Str} {pos : Pos} (hN : X.N[i]? = some x := by rfl) (hv : Vis X.env.scope x := by first | exact Or.inl rfl | exact Or.inr (Or.inl rfl) | exact Or.inr (Or.inr rfl)) (hd : (x == ("__debug__" : Str)) = false := by decide)
    (hcd : (x == ("__classdict__" : Str)) = false := by decide) : PE X (.Name x pos) (tVar i) := pe_var hN hv hd hcd
end

/-! ### tests -/
theorem iteF {A B : Prop} (h : B) : if false = true then A else B := by
  rw [if_neg Bool.false_ne_true]
  exact h
theorem iteT {A B : Prop} (h : A) : if true = true then A else B := by
  rw [if_pos rfl]
  exact h
theorem ite2 {c A B : Prop} [Decidable c] (h1 : c → A) (h2 : ¬ c → B) : if c then A else B := by
  by_cases h : c
  · rw [if_pos h]
    exact h1 h
  · rw [if_neg h]
    exact h2 h

/-! ### heaps -/
/-- all that was tracked is as it was -/
def Same (H H' : Hp) : Prop := ∀ b o, H b = some o → H' b = some o
theorem Same.refl (H : Hp) : Same H H := fun _ _ h => h
theorem Same.trans {H H1 H2 : Hp} (a : Same H H1) (b : Same H1 H2) : Same H H2 := fun c o h => b c o (a c o h)
theorem Same.free {H H' : Hp} (e : Same H H') {l : Addr} (h : H' l = Option.none) : H l = Option.none := by
  cases q : H l with
  | none => rfl
  | some o =>
    rw [e l o q] at h
    cases h
theorem Same.seq {K : PySem.W.Frag} {H H' : Hp} {a : Addr} {xs : List V} (e : Same H H') (h : SqL K H a xs) : SqL K H' a xs := by
  rcases h with (h | ⟨o, h⟩) | h
  · exact .inl (.inl (e _ _ h))
  · exact .inl (.inr ⟨o, e _ _ h⟩)
  · exact .inr h

end L2
set_option maxHeartbeats 4000000
namespace L2
open PySem PySem.Spec PyProof.Rows

/-! ### comprehensions -/
/-- the block of a comprehension: its own frame at C, the iterator's objects at fp -/
def blk (X : Cx) (scope : Scope) (N : List Str) (cl : List (Str × Addr)) (C : Addr) (s : Shared) (H : Hp) (fp : List Addr) : Cx where
  prog := X.prog
  w := X.w
  K := X.K
  mg := X.mg
  base := X.base
  A := X.A
  N := N
  s₀ := s
  H₀ := H
  env := compEnvC scope cl C X.env
  outer := X.stack
  stack := X.stack
  ex := fp
  fn := fun _ => false
  calm := X.calm
  pn := []
  xe := fun _ _ => False

/-- the captured names, and the slots in which they stand outside -/
inductive Cap (X : Cx) (scope : Scope) (cl : List (Str × Addr)) : List Str → List Nat → Prop where
  | nil : Cap X scope cl [] []
  | cons {y : Str} {j : Nat} {ys : List Str} {js : List Nat} (h1 : X.N[j]? = some y) (h2 : X.env.kindOf y = some .cell) (h3 : (relabel scope X.env).names.lookup y = some .cell) (h4 : cl.lookup y = X.env.cells.lookup y)
      (r : Cap X scope cl ys js) : Cap X scope cl (y :: ys) (j :: js)
def capS (js : List Nat) (σ : St) : St := js.map fun (j : Nat) => (σ[j]?).join
theorem Cap.len {X : Cx} {scope : Scope} {cl : List (Str × Addr)} : ∀ {ys : List Str} {js : List Nat}, Cap X scope cl ys js → ys.length = js.length
  | _, _, .nil => rfl
  | _, _, .cons _ _ _ _ r => by rw [List.length_cons, List.length_cons, r.len]
theorem Cap.get {X : Cx} {scope : Scope} {cl : List (Str × Addr)} {σ : St} : ∀ {ys : List Str} {js : List Nat} {i : Nat} {y : Str} {v : V}, Cap X scope cl ys js → ys[i]? = some y → (capS js σ)[i]? = some (some v) →
    ∃ j : Nat, X.N[j]? = some y ∧ σ[j]? = some (some v) ∧ X.env.kindOf y = some .cell ∧ (relabel scope X.env).names.lookup y = some .cell ∧ cl.lookup y = X.env.cells.lookup y
  | _, _, 0, _, v, .cons (j := j) h1 h2 h3 h4 _, e1, e2 => by
    simp only [List.getElem?_cons_zero, Option.some.injEq] at e1
    subst e1
    have e3 : (σ[j]?).join = some v := by simpa [capS] using e2
    refine ⟨j, h1, ?_, h2, h3, h4⟩
    cases q : σ[j]? with
    | none => rw [q] at e3; cases e3
    | some z => rw [q] at e3; exact congrArg some e3
  | _, _, i + 1, _, _, .cons _ _ _ _ r, e1, e2 => Cap.get (i := i) r (by simpa using e1) (by simpa [capS] using e2)

/-- the tests of a comprehension -/
def PIfs (X : Cx) (ifs : List Expr) (t : TT) : Prop :=
  ∀ (pins : List (Addr × Obj)) (s : Shared) (σ : St) (H : Hp) (Q : Bool → Hp → Prop), Inv X pins σ H s → t σ H Q →
    wpAny (model X.prog X.w) X.A (forIn ifs true fun c r => if r = true then do let ok ← isTrue c X.env (eval c X.env); pure (ForInStep.yield ok) else pure (ForInStep.yield r)) (TP X pins σ Q) X.xe s
def tYes : TT := fun _ H Q => Q true H
theorem pif_nil {X : Cx} : PIfs X [] tYes := fun _ _ _ H _ I h => wpAny_tests_nil ⟨H, I, h⟩
theorem pif_one {X : Cx} {c : Expr} {t : TT} (h : PT X c t) : PIfs X [c] t := fun pins s σ H Q I q => wpAny_tests_one (h pins s σ H Q I q)

/-- how a comprehension goes: W by the turn, a measure, what is gathered, the heap -/
def CompW (J : It) (σb : V → St) (tc : TT) (te : TE) (D : Addr) (Q : VK) (H : Hp) : Prop :=
  ∃ W : Nat → Nat → List V → Hp → Prop, (∃ m, W 0 m [] (upd H D (.lst []))) ∧ ∀ i m ys H, W i m ys H → H D = some (.lst ys) ∧
    ((J.stop i H ∧ Q (.ref D) H) ∨ (J.go i H ∧ ∀ x H', J.yld i H x H' → tc (σb x) H' fun b H2 =>
      if b = true then te (σb x) H2 fun y H3 => H3 D = some (.lst ys) ∧ ys.length < sizeLine ∧ ∃ m', m' < m ∧ W (i + 1) m' (ys ++ [y]) (upd H3 D (.lst (ys ++ [y])))
      else ∃ m', m' < m ∧ W (i + 1) m' ys H2))
def tComp (wi : TI) (js : List Nat) (tc : TT) (te : TE) : TE := fun σ H Q => wi σ H fun J H1 => ∀ D, H1 D = none → CompW J (fun x => some x :: capS js σ) tc te D Q H1

section
variable {X : Cx} {pins : List (Addr × Obj)} {σ : St} {H : Hp} {s : Shared}

theorem blk_ok {scope : Scope} {x : Str} {ys : List Str} {js : List Nat} {cl : List (Str × Addr)} {fp : List Addr} {h1 : Heap} {tk : Nat} (I : Inv X pins σ H s) (hk : scope.kind = .function) (cap : Cap X scope cl ys js)
    (hcl : ∀ y c, cl.lookup y = some c → X.env.cells.lookup y = some c) (hhas : ∀ y, ((relabel scope X.env).names.lookup y = some .cell ∨ (relabel scope X.env).names.lookup y = some .free) → ∃ c, cl.lookup y = some c)
    (hf : ∀ b ∈ fp, FpOk X pins H b) (hlt : ∀ b ∈ fp, b < s.heap.objs.size)
    (hns : ∃ m, h1.Ns s.heap.objs.size m) (keep : ∀ b o, s.heap.get? b = some o → h1.get? b = some o) :
    Inv (blk X scope (x :: ys) cl s.heap.objs.size s H fp) [] (none :: capS js σ) H { s with heap := h1, toks := tk } := by
  have fresh : H s.heap.objs.size = none := I.hok.fresh (Nat.le_refl _)
  refine ⟨⟨I.ok.mod, hk, I.ok.glob, I.ok.blt, Nat.le_refl _, fun y z c e1 e2 => I.ok.inj y z c (hcl y c e1) (hcl z c e2), fun y hy => hhas y hy, fun y c e => absurd e Bool.false_ne_true, I.ok.hd, I.ok.frames, .inl rfl,
      fun b hb => ⟨Nat.ne_of_lt (hlt b hb), fun y c e => (hf b hb).2.2.2.2.1 y c (hcl y c e)⟩, I.bs, Nat.le_trans I.ok.bsz I.sz, fun b o e hb => ?_, fun b hb z => ?_, I.stack, I.stkFree⟩,
    rfl, I.bare, Un.kept keep, ?_, fun y c e => ?_, fresh, fun y c e => I.freeC y c (hcl y c e), fun p hp => absurd (show p ∈ ([] : List (Addr × Obj)) from hp) (by simp), I.hok.kept keep, ?_⟩
  · rcases (hf b hb).2.2.2.1 with z | z
    · exact I.ok.noex b o e z
    · exact absurd (Nat.lt_of_lt_of_le (Heap.lt_size e) (Nat.le_trans I.ok.bsz z)) (Nat.lt_irrefl _)
  · rcases List.mem_cons.mp (I.stkSub b z) with q | q
    · exact (hf b hb).2.1 q
    · exact (hf b hb).2.2.1 q
  · obtain ⟨m, hm⟩ := hns
    refine ⟨m, hm, fun i y v e1 e2 _ => ?_⟩
    cases i with
    | zero =>
      have e2' : (none : Option V) = some v := by simpa using e2
      cases e2'
    | succ i =>
      obtain ⟨j, n1, n2, n3, n4, n5⟩ := cap.get (i := i) (by simpa [blk] using e1) (by simpa using e2)
      obtain ⟨m0, hn0, hl0⟩ := I.loc
      obtain ⟨u, r, l⟩ := hl0 j y v n1 n2 (.inr (.inl n3))
      refine ⟨u, r, ?_⟩
      rcases l with ⟨l1, _⟩ | ⟨_, c, l2, o, ho, hd⟩
      · rw [n3] at l1; cases l1
      · exact .inr ⟨.inl n4, c, n5.trans l2, o, keep c o ho, hd⟩
  · obtain ⟨v, o, ho, hd⟩ := I.cell y c (hcl y c e)
    exact ⟨v, o, keep c o ho, hd⟩
  · show (none :: capS js σ).length = (x :: ys).length
    rw [List.length_cons, List.length_cons, cap.len, capS, List.length_map]
end

section
variable {X : Cx} {x : Str} {px pos : Pos} {elt iter : Expr} {ifs : List Expr} {scope : Scope} {ys : List Str} {js : List Nat} {tc : TT} {te : TE} {wi : TI}

/-- what the block wants to know of its scope -/
structure CScope (X : Cx) (scope : Scope) (x : Str) (ys : List Str) (js : List Nat) (cl : List (Str × Addr)) : Prop where
  kind : scope.kind = .function
  nocell : ∀ y ∈ scope.names, y.2 ≠ .cell
  locals : ∀ y ∈ scope.names, y.2 = .local → scope.names.lookup y.1 = some .local
  own : scope.names.lookup x = some .local
  clos : closureFor scope X.env = pure cl
  cap : Cap X scope cl ys js
  cells : ∀ y c, cl.lookup y = some c → X.env.cells.lookup y = some c
  has : ∀ y, ((relabel scope X.env).names.lookup y = some .cell ∨ (relabel scope X.env).names.lookup y = some .free) → ∃ c, cl.lookup y = some c
  nd : (x :: ys).Nodup

theorem comp_core {cl : List (Str × Addr)} (S : CScope X scope x ys js cl) (hc : X.calm = true)
    (ht : ∀ C s H fp, PIfs (blk X scope (x :: ys) cl C s H fp) ifs tc) (he : ∀ C s H fp, PE (blk X scope (x :: ys) cl C s H fp) elt te)
    {pins : List (Addr × Obj)} {σ : St} {s2 : Shared} {E : Value → Shared → Prop} {RR : Value → Addr → Result → Shared → Prop} {it : Addr} {fp : List Addr} {tn : Nat → Heap → Prop} {J : It} {H2 : Hp} {Q : VK}
    (I2 : Inv X pins σ H2 s2) (T : Turn X.prog X.w X.K (.Name x px) J fp it tn) (st2 : tn 0 s2.heap) (f2 : ∀ b ∈ fp, FpOk X pins H2 b)
    (q : ∀ D, H2 D = none → CompW J (fun v => some v :: capS js σ) tc te D Q H2)
    (hRR : ∀ D C Hf s', Inv X pins σ Hf s' → (∃ m, s'.heap.Ns C m) → FpOk X pins Hf C → Q (.ref D) Hf → RR (.ref D) C (.ok .next) s') :
    wpAny (model X.prog X.w) X.A (newList []) (fun acc s₃ => wpAny (model X.prog X.w) X.A (newFunctionEnv scope X.env.globals cl [] X.env.qual none .none (some X.env)) (fun cenv s₄ =>
      codeAny (model X.prog X.w) X.A (.compStart (.ListComp elt [⟨.Name x px, iter, ifs, 0⟩] scope pos) 0 (.ref it) acc { cenv with scope := relabel scope X.env }) (RR acc cenv.locals) s₄) E s₃) E s2 := by
  have fr2 : H2 s2.heap.objs.size = none := I2.hok.fresh (Nat.le_refl _)
  have flt : ∀ b ∈ fp, b < s2.heap.objs.size := fun b hb => let ⟨o, e, _⟩ := T.obj 0 _ st2 b hb; Heap.lt_size e
  refine wpAny_newObj_type (wpAny_newFunctionEnv S.nocell (by intro y hy; simp at hy) (fun h₁ hns₁ hsb₁ => ?_) S.kind) (by show 0 ≤ sizeLine; exact Nat.zero_le _)
  dsimp only at hns₁ hsb₁ ⊢
  have I3 : Inv X pins σ (upd H2 s2.heap.objs.size (.lst [])) { s2 with heap := s2.heap.push { cls := .type "list", dict := none, data := .seq ([] : List Value).toArray } } :=
    Inv.lnew (t' := s2.toks) I2 (its := []) .nil (Nat.zero_le _)
  obtain ⟨W, ⟨m0, w0⟩, turn⟩ := q _ fr2
  generalize hD : s2.heap.objs.size = D at *
  generalize hH3 : upd H2 D (.lst []) = H3 at *
  have hsz3 : (s2.heap.push { cls := .type "list", dict := none, data := .seq ([] : List Value).toArray }).objs.size = D + 1 := by rw [Heap.size_push, hD]
  have up3 : ∀ b o, s2.heap.get? b = some o → (s2.heap.push { cls := .type "list", dict := none, data := .seq ([] : List Value).toArray }).get? b = some o := fun b o e => Heap.get?_push_of_some _ e
  generalize hs3 : s2.heap.push { cls := .type "list", dict := none, data := .seq ([] : List Value).toArray } = h3 at *
  have fnD : ∀ b ∈ fp, b ≠ D := fun b hb => Nat.ne_of_lt (flt b hb)
  have f3 : ∀ b ∈ fp, FpOk X pins H3 b := fun b hb => ⟨by rw [← hH3, upd_ne (fnD b hb)]; exact (f2 b hb).1, (f2 b hb).2⟩
  have flt3 : ∀ b ∈ fp, b < h3.objs.size := fun b hb => by rw [hsz3]; exact Nat.lt_succ_of_lt (flt b hb)
  have keep : ∀ b o, h3.get? b = some o → h₁.get? b = some o := fun b o e => hsb₁.extBut b o (Nat.ne_of_lt (Heap.lt_size e)) (Heap.get?_push_of_some _ e)
  have I4 := blk_ok (x := x) (s := { s2 with heap := h3 }) (tk := s2.toks + ([] : List (Str × Value)).length) I3 S.kind S.cap S.cells S.has f3 flt3 ⟨_, hns₁⟩ keep
  generalize hC : h3.objs.size = C at *
  have st4 : tn 0 h₁ := T.keep 0 _ _ st2 fun b _ o e => keep b o (up3 b o e)
  -- a state of the block is a state of the def
  have back : ∀ {σ' : St} {Hf : Hp} {s' : Shared}, Inv (blk X scope (x :: ys) cl C { s2 with heap := h3 } H3 fp) [] σ' Hf s' → Inv X pins σ Hf s' := fun {σ' Hf s'} J' =>
    I3.call' J'.os J'.base J'.hok J'.bare fun b hb => ⟨(f3 b hb).2.2.2.1, (f3 b hb).2.1, (f3 b hb).2.2.2.2.1, (f3 b hb).2.2.2.2.2⟩
  have fC : ∀ {Hf : Hp}, Hf C = none → FpOk X pins Hf C := fun hn => I3.fpOk (by rw [← hC]; exact Nat.le_refl _) hn
  have loop : codeAny (model X.prog X.w) X.A (.compLoop (.ListComp elt [⟨.Name x px, iter, ifs, 0⟩] scope pos) 0 (.ref it) (.ref D) (compEnvC scope cl C X.env)) (RR (.ref D) C)
      { s2 with heap := h₁, toks := s2.toks + ([] : List (Str × Value)).length } := by
    refine codeAny_loop rfl (fun n s' => ∃ i zs H', Inv (blk X scope (x :: ys) cl C { s2 with heap := h3 } H3 fp) [] (none :: capS js σ) H' s' ∧ tn i s'.heap ∧ (∀ b ∈ fp, H' b = none) ∧ W i n zs H')
      ?_ m0 ⟨0, [], H3, I4, st4, fun b hb => (f3 b hb).1, w0⟩
    rintro n s5 ⟨i, zs, H5, I5, st5, fr5, w5⟩
    show wpAny (model X.prog X.w) X.A ((compTurn (.ListComp elt [⟨.Name x px, iter, ifs, 0⟩] scope pos) 0 (.ref it) (.ref D) (compEnvC scope cl C X.env)).onRaise (fun e => do noteFrame e (compEnvC scope cl C X.env); theTreesLotGoes e)) _ _ s5
    refine wpAny_noted ?_
    rw [compTurn_list]
    have stat : ∀ {H' : Hp}, (∀ b ∈ fp, H' b = none) → ∀ b ∈ fp, FpOk (blk X scope (x :: ys) cl C { s2 with heap := h3 } H3 fp) [] H' b := fun hn b hb =>
      ⟨hn b hb, I5.ok.exf b hb |>.1, I5.ok.exfs b hb, .inl hb, I5.ok.exf b hb |>.2, fun p hp => absurd (show p ∈ ([] : List (Addr × Obj)) from hp) (by simp)⟩
    obtain ⟨hHD, way⟩ := turn i n zs H5 w5
    rcases way with ⟨stop, fin⟩ | ⟨go, step⟩
    · refine wpAny_bind (wpAny_standAt (wpAny_bind (thn (T.done (blk X scope (x :: ys) cl C { s2 with heap := h3 } H3 fp) rfl rfl rfl hc i [] s5 (none :: capS js σ) H5 _ I5 (stat fr5) st5 stop) fun r s6 ⟨hr, I6⟩ => ?_)))
      subst hr
      exact wpAny_pure (hRR D C H5 s6 (back I6) (let ⟨m, h, _⟩ := I6.loc; ⟨m, h⟩) (fC I6.free) fin)
    · refine wpAny_bind (wpAny_standAt (wpAny_bind (thn (T.item (blk X scope (x :: ys) cl C { s2 with heap := h3 } H3 fp) rfl rfl rfl hc i [] s5 (none :: capS js σ) H5 _ I5 (stat fr5) st5 go) fun r s6 ⟨u, hr, h6⟩ => ?_)))
      subst hr
      refine wpAny_bind (thn h6 fun _ s7 ⟨v, H7, I7, r7, y7, st7, fr7⟩ => ?_)
      have I7' := I7.pinned (stat fr7) (T.obj _ _ st7)
      refine wpAny_bind (wpAny_mono (pg_name (i := 0) (X := blk X scope (x :: ys) cl C { s2 with heap := h3 } H3 fp) S.nd rfl (.inl (lookup_relabel_local S.own)) (.inr (lookup_relabel_local S.own)) _ s7 (none :: capS js σ) H7 v u
        (fun σ' H' => σ' = some v :: capS js σ ∧ H' = H7) I7' r7 ⟨rfl, rfl⟩) (fun _ s8 ⟨σ8, H8, I8, e8, e8'⟩ => ?_) fun _ _ z => False.elim z)
      subst e8 e8'
      refine wpAny_bind (wpAny_mono (ht C { s2 with heap := h3 } H3 fp _ s8 _ _ _ I8 (step v _ y7)) (fun ok s9 ⟨H9, I9, q9⟩ => ?_) fun _ _ z => False.elim z)
      have again : ∀ {σ' : St} {H' : Hp} {s' : Shared} {zs' : List V}, Inv (blk X scope (x :: ys) cl C { s2 with heap := h3 } H3 fp) ([] ++ pinsAt fp s7.heap) (some v :: capS js σ) H' s' → (∃ m', m' < n ∧ W (i + 1) m' zs' H') →
          ∃ m, m < n ∧ ∃ i zs H', Inv (blk X scope (x :: ys) cl C { s2 with heap := h3 } H3 fp) [] (none :: capS js σ) H' s' ∧ tn i s'.heap ∧ (∀ b ∈ fp, H' b = none) ∧ W i m zs H' := fun {σ' H' s' zs'} J' ⟨m', hm, w'⟩ => by
        refine ⟨m', hm, i + 1, zs', H', J'.unpinned.weak (by simp) (fun k v' e => ?_), T.keep _ _ _ st7 fun b hb o e => (J'.pin (b, o) (List.mem_append_right _ (List.mem_append_right _ (mem_pinsAt hb e)))).1, fun b hb => ?_, w'⟩
        · cases k with
          | zero => simp at e
          | succ k => simpa using e
        · obtain ⟨o, e, d⟩ := T.obj _ _ st7 b hb
          exact (J'.pin (b, o) (List.mem_append_right _ (List.mem_append_right _ (mem_pinsAt hb e)))).2.1
      cases ok with
      | false =>
        simp only [Bool.false_eq_true, if_false] at q9 ⊢
        exact wpAny_pure ⟨rfl, again (σ' := []) I9 q9⟩
      | true =>
        simp only [if_true] at q9 ⊢
        refine wpAny_bind (wpAny_bind (wpAny_mono (he C { s2 with heap := h3 } H3 fp _ s9 _ _ _ I9 q9) (fun a s10 ⟨y, H10, I10, r10, hD10, hz10, q10⟩ => ?_) fun _ _ z => False.elim z))
        refine wpAny_bind (wpAny_mono (mt_append (X := blk X scope (x :: ys) cl C { s2 with heap := h3 } H3 fp) _ s10 _ H10 (.ref D) [y] (.ref D) [a] (fun _ H' => H' = upd H10 D (.lst (zs ++ [y]))) I10 rfl (.cons r10 .nil)
          ⟨D, zs, y, rfl, rfl, hD10, hz10, rfl⟩) (fun _ s11 ⟨_, H11, I11, _, e11⟩ => ?_) fun _ _ z => False.elim z)
        subst e11
        exact wpAny_pure (wpAny_pure ⟨rfl, again (σ' := []) I11 q10⟩)
  exact codeAny_compStart_list loop (T.self X.A 0 _ _ _ st4 loop)

/-- [elt for x in iter if ..] -/
theorem pe_comp {cl : List (Str × Addr)} (S : CScope X scope x ys js cl) (hc : X.calm = true) (hi : PI X (.Name x px) iter wi)
    (ht : ∀ C s H fp, PIfs (blk X scope (x :: ys) cl C s H fp) ifs tc) (he : ∀ C s H fp, PE (blk X scope (x :: ys) cl C s H fp) elt te)
    (hs : ∀ x, foldedSetIterable iter X.env x = pure x := by intro _; rfl) : PE X (.ListComp elt [⟨.Name x px, iter, ifs, 0⟩] scope pos) (tComp wi js tc te) := by
  intro pins s σ H Q I h
  rw [eval_ListComp]
  refine wpAny_comprehension_free (use := none) rfl hs S.clos S.kind S.locals (thn (hi pins s σ H _ I h) fun v s1 h1 => thn h1 fun itv s2 h2 => ?_)
  obtain ⟨it, fp, tn, J, H2, e, I2, T, st2, f2, q⟩ := h2
  subst e
  refine comp_core (RR := fun acc C => compPost (model X.prog X.w) X.A X.xe none (EP X pins σ Q) acc C) S hc ht he I2 T st2 f2 q fun D C Hf s' I' ns ⟨f0, f1, _, f3, f4, f5⟩ fin => ?_
  obtain ⟨m, ns⟩ := ns
  exact ⟨m, ns, fun h' hs' => ⟨.ref D, Hf, I'.turned (t' := s'.toks) (fun b o hb e => (hs'.2 b hb).trans e) f0 f1 f3 f4 f5, rfl, fin⟩⟩
/-- y = [elt for x in iter if ..], all in one row -/
theorem ps_comp {cl : List (Str × Addr)} {i : Nat} {y : Str} {py spos : Pos} (S : CScope X scope x ys js cl) (hc : X.calm = true) (hN : X.N.Nodup) (hi' : X.N[i]? = some y) (hy : X.env.scope.names.lookup y = some .local) (hi : PI X (.Name x px) iter wi)
    (ht : ∀ C s H fp, PIfs (blk X scope (x :: ys) cl C s H fp) ifs tc) (he : ∀ C s H fp, PE (blk X scope (x :: ys) cl C s H fp) elt te)
    (hsw : swapsWith (.ListComp elt [⟨.Name x px, iter, ifs, 0⟩] scope pos) (some (.Name y py)) spos.line X.env = pure true)
    (hs : ∀ x, foldedSetIterable iter X.env x = pure x := by intro _; rfl) : PS X (.Assign [.Name y py] (.ListComp elt [⟨.Name x px, iter, ifs, 0⟩] scope pos) spos) (tAsg (tComp wi js tc te) (gName i)) := by
  intro pins s σ H D0 I h
  rw [exec_Assign_Name_used _ _ _ _ hsw]
  refine wpAny_bind (wpAny_standAt (wpAny_bind ?_))
  show wpAny (model X.prog X.w) X.A (comprehension (.ListComp elt [⟨.Name x px, iter, ifs, 0⟩] scope pos) scope X.env _ (newList []) false (eval iter X.env) (some (assign (.Name y py) X.env)) >>= fun _ => pure ()) _ _ s
  refine wpAny_bind (thn (wpAny_comprehension_free (use := some (assign (.Name y py) X.env)) (Q := fun _ s' => SP X pins D0 .next s') rfl hs S.clos S.kind S.locals (thn (hi pins s σ H _ I h) fun v s1 h1 => thn h1 fun itv s2 h2 => ?_))
    fun _ s' hq => wpAny_pure (wpAny_pure hq))
  obtain ⟨it, fp, tn, J, H2, e, I2, T, st2, f2, q⟩ := h2
  subst e
  refine comp_core (RR := fun acc C => compPost (model X.prog X.w) X.A X.xe (some (assign (.Name y py) X.env)) (fun _ s' => SP X pins D0 .next s') acc C) S hc ht he I2 T st2 f2 q fun D C Hf s' I' ns ⟨f0, f1, _, f3, f4, f5⟩ fin => ?_
  obtain ⟨m, ns⟩ := ns
  show wpAny (model X.prog X.w) X.A (assign (.Name y py) X.env (.ref D)) _ X.xe s'
  refine wpAny_assign_Name (store_ok2 (v := .ref D) I' hN hi' (.inl hy) rfl (fun s'' I'' ⟨a, sb, ha⟩ => ⟨m, ns.sameBut sb ?_, fun h' hs' => ⟨_, Hf, I''.turned (t' := s''.toks) (fun b o hb e => (hs'.2 b hb).trans e) f0 f1 f3 f4 f5, fin⟩⟩) (.inr hy))
  rcases ha with z | z
  · rw [z]; exact f1
  · exact Ne.symm (f4 _ _ z)
end
end L2
namespace L2
open PySem PySem.Spec PyProof.Rows

/-! ### data, and equality of data -/
mutual
inductive Rp (K : PySem.W.Frag) (H : Hp) : V → PyData → Prop where
  | non : Rp K H .non .none
  | bl (b : Bool) : Rp K H (.bl b) (.bool b)
  | int (i : Int) : Rp K H (.int i) (.int i)
  | str (x : Str) : Rp K H (.str x) (.str x)
  | lst {a : Addr} {xs : List V} {ds : List PyData} (h : SqL K H a xs) (r : RpAll K H xs ds) : Rp K H (.ref a) (.list ds)
  | tup {a : Addr} {xs : List V} {ds : List PyData} (h : SqT K H a xs) (r : RpAll K H xs ds) : Rp K H (.ref a) (.tuple ds)
inductive RpAll (K : PySem.W.Frag) (H : Hp) : List V → List PyData → Prop where
  | nil : RpAll K H [] []
  | cons {x : V} {d : PyData} {xs : List V} {ds : List PyData} (h : Rp K H x d) (r : RpAll K H xs ds) : RpAll K H (x :: xs) (d :: ds)
end
section
variable {X : Cx} {pins : List (Addr × Obj)} {σ : St} {H : Hp} {s : Shared}
mutual
theorem Rp.reads (I : Inv X pins σ H s) : ∀ {v : V} {d : PyData} {u : Value}, Rp X.K H v d → RelV v u → ∃ as, Reads s.heap u d as
  | _, _, _, .non, r => by cases r; exact ⟨_, .none⟩
  | _, _, _, .bl b, r => by cases r; exact ⟨_, .bool b⟩
  | _, _, _, .int i, r => by obtain ⟨t, rfl⟩ := r; exact ⟨_, .int i t⟩
  | _, _, _, .str x, r => by obtain ⟨t, rfl⟩ := r; exact ⟨_, .str x t⟩
  | _, _, _, .lst h rr, r => by
    cases r
    obtain ⟨its, rv, pl, _⟩ := I.list h
    obtain ⟨o, ho, hc, n, hd⟩ := pl.isList
    obtain ⟨as, ha⟩ := RpAll.reads I rr rv
    exact ⟨_, .list ho hc hd (by simpa using ha)⟩
  | _, _, _, .tup h rr, r => by
    cases r
    obtain ⟨its, rv, pl, _⟩ := I.tuple h
    obtain ⟨o, ho, hc, n, hd⟩ := pl
    obtain ⟨as, ha⟩ := RpAll.reads I rr rv
    exact ⟨_, .tuple ho hc hd (by simpa using ha)⟩
theorem RpAll.reads (I : Inv X pins σ H s) : ∀ {xs : List V} {ds : List PyData} {us : List Value}, RpAll X.K H xs ds → Vals xs us → ∃ as, ReadsAll s.heap us ds as
  | _, _, _, .nil, r => by cases r; exact ⟨_, .nil⟩
  | _, _, _, .cons h hr, r => by
    cases r with
    | cons r1 r2 =>
      obtain ⟨as, ha⟩ := Rp.reads I h r1
      obtain ⟨bs, hb⟩ := RpAll.reads I hr r2
      exact ⟨_, .cons ha hb⟩
end
end
/-- x == y, x != y by data -/
def rEqD (K : PySem.W.Frag) (neg : Bool) : R2 := fun x y H Q => ∃ d e, Rp K H x d ∧ Rp K H y e ∧ d.canLay0 = true ∧ e.canLay0 = true ∧ d.depth ≤ 60 ∧ Q (.bl (if neg then !PyData.eqv d e else PyData.eqv d e)) H
section
variable {X : Cx}
theorem op_neD (hu : X.A.units + 64 < cLine) : OpR X (compareOp .NotEq) (rEqD X.K true) := by
  intro pins s σ H x y v u Q I rx ry h
  obtain ⟨d, e, rd, re, cd, ce, hd, q⟩ := h
  obtain ⟨as, ra⟩ := rd.reads I rx
  obtain ⟨bs, rb⟩ := re.reads I ry
  exact PySem.SeqAt.compareNe_reads ra rb cd ce (by have := Nat.min_le_left d.depth e.depth; omega) ⟨.bl _, H, I, rfl, q⟩

/-! ### isinstance -/
def rIsi (K : PySem.W.Frag) : List V → Hp → VK → Prop := fun xs H Q => ∃ x c t b, xs = [x, .ty c] ∧ TyOf K H x t ∧ PySem.W.kitOne K t (.type c) = some b ∧ Q (.bl b) H
theorem call_isi : CallR X (.builtin "isinstance") (rIsi X.K) := by
  intro pins s σ H xs us Q I r h
  obtain ⟨x, c, t, b, rfl, ty, e, q⟩ := h
  obtain ⟨u, v, rfl, ru, rv⟩ := r.two
  obtain rfl : v = Value.type c := rv
  exact isinst_ok I ru ty e fun tk => ⟨.bl b, H, I.tok tk, rfl, q⟩

/-! ### a < b < c < d -/
section
variable {a b c d : Expr} {ta tb tc td : TE} {pos : Pos}
def tChain3 (r1 r2 r3 : R2) (ta tb tc td : TE) : TE := fun σ H Q => ta σ H fun x H1 => tb σ H1 fun y H2 => r1 x y H2 fun z H3 => ∃ k, z = .bl k ∧
  (if k = true then tc σ H3 fun y2 H4 => r2 y y2 H4 fun z2 H5 => ∃ k2, z2 = .bl k2 ∧ (if k2 = true then td σ H5 fun w H6 => r3 y2 w H6 Q else Q (.bl false) H5) else Q (.bl false) H3)
end
end

/-! ### ranges by a step -/
/-- lo, lo + c, .. (n of them) -/
def Its (lo c : Int) (n : Nat) : It := ⟨fun i _ => i < n, fun i H x H' => H' = H ∧ x = .int (lo + i * c), fun i _ => n ≤ i⟩
theorem turn_step {P : Program} {w : World} {K : PySem.W.Frag} {tg : Expr} (it : Addr) (lo c : Int) (n : Nat) : Turn P w K tg (Its lo c n) [it] it (fun i h => IsRangeIter h it (lo + (i : Nat) * c) ((n : Int) - (i : Nat)) c) where
  mem := by simp
  obj := fun i h st b hb => by
    obtain rfl : b = it := by simpa using hb
    exact ⟨_, st, fun v z => by cases (show Data.fields _ = Data.cell v from z)⟩
  keep := fun i h h' st k => k it (by simp) _ st
  item := by
    intro X hP hw hK hc i pins s σ H E I hf st hg
    subst hP hw hK
    obtain ⟨f0, f1, f2, f3, f4, f5⟩ := hf it (by simp)
    refine (Walks.range (prog := X.prog) (w := X.w) (I.ok.hd hc) it lo c n).item i s _ _ hg st fun v h' tk hv st' kk => ?_
    obtain ⟨t, rfl⟩ := hv
    have I1 : Inv X pins σ H { s with heap := h', toks := tk } := I.turned (fun b o hb e => kk b o (by simpa using hb) e) f0 f1 f3 f4 f5
    exact ⟨_, rfl, go_of (s := { s with heap := h', toks := tk }) (n := "range_iterator") st' rfl rfl (by decide) ⟨.int (lo + i * c), H, I1, ⟨t, rfl⟩, ⟨rfl, rfl⟩, st', fun b hb => (hf b hb).1⟩⟩
  done := by
    intro X hP hw hK hc i pins s σ H E I hf st hg
    subst hP hw hK
    obtain ⟨f0, f1, f2, f3, f4, f5⟩ := hf it (by simp)
    exact wpAny_pyNext_range_end (I.ok.hd hc) st (by have : n ≤ i := hg; omega) fun h' eb => ⟨rfl, I.turned (t' := s.toks) (fun b o hb e => eb b o hb e) f0 f1 f3 f4 f5⟩
  self := fun _ _ _ _ _ st h => wpAny_pyIter_rangeiter st h
section
variable {X : Cx} {tg : Expr}
def iDown (ta : TA) : TI := fun σ H R => ta σ H fun vs H1 => ∃ i j : Int, vs = [.int i, .int j, .int (-1)] ∧ (-(2 ^ 60) ≤ i ∧ i < 2 ^ 60 ∧ -(2 ^ 60) ≤ j ∧ j < 2 ^ 60) ∧ R (Its i (-1) (i - j).toNat) H1
theorem size_down (i j : Int) : Builtin.Range.rangeSize i j (-1) = ((i - j).toNat : Int) := by
  unfold Builtin.Range.rangeSize
  rw [if_neg (by decide)]
  split
  · rw [show (-(-1) : Int) = 1 by decide, Int.ediv_one]; omega
  · omega
theorem small_down {i j : Int} (h1 : -(2 ^ 60) ≤ i) (h2 : i < 2 ^ 60) (h3 : -(2 ^ 60) ≤ j) (h4 : j < 2 ^ 60) : Builtin.Range.small i j (-1) = true := by
  unfold Builtin.Range.small
  rw [size_down]
  simp only [Builtin.Range.rangeFitsLong, Bool.and_eq_true, Bool.or_eq_true, decide_eq_true_eq, beq_iff_eq, show ¬ ((-1 : Int) > 0) by decide, if_false]
  omega
theorem pi_down {a b c : Expr} {ta : TA} {p pos : Pos} (hg : Gl X "range") (hm : X.mg "range" = none) (ha : PA X [a, b, c] ta) (hs : starEach [a, b, c] X.env = (false, eval a X.env) :: starEach [b, c] X.env := by rfl) (hp : (backTo pos (starEach [b, c] X.env)).any (·.1) = false := by rfl) :
    PI X tg (.Call (.Name "range" p) [a, b, c] [] pos) (iDown ta) := by
  intro pins s σ H R I h
  refine Call_ (ld_blt I hg hm boot_range (PyProof.Rows.callWith_type1 (thn (ha pos pins s σ H _ I h) fun us s1 ⟨vs, H1, I1, r1, q1⟩ => ?_) hs hp))
  obtain ⟨i, j, e, ⟨q1, q2, q3, q4⟩, q⟩ := q1
  subst e
  cases r1 with
  | cons r rr =>
    cases rr with
    | cons r' rr =>
      cases rr with
      | cons r'' rr =>
        cases rr
        obtain ⟨t, rfl⟩ := r
        obtain ⟨t', rfl⟩ := r'
        obtain ⟨t'', rfl⟩ := r''
        refine call_range_3 (by decide) ?_ (.inl (PyProof.noPylong_small (by decide)))
        refine wpAny_pyIter_range (IsRange.new ..) (small_down q1 q2 q3 q4) ?_
        have I2 : Inv X pins σ H1 { s1 with heap := s1.heap.push { cls := .type "range", data := .fields #[.int i t, .int j t', .int (-1) t''] } } := I1.kept (t' := s1.toks) fun b o e => Heap.get?_push_of_some _ e
        refine ⟨(s1.heap.push { cls := .type "range", data := .fields #[.int i t, .int j t', .int (-1) t''] }).objs.size, [(s1.heap.push { cls := .type "range", data := .fields #[.int i t, .int j t', .int (-1) t''] }).objs.size], _, _, H1, rfl,
          I2.kept (t' := s1.toks) fun b o e => Heap.get?_push_of_some _ e, turn_step _ i (-1) (i - j).toNat, ?_, fun b hb => ?_, q⟩
        · have e1 : i + ((0 : Nat) : Int) * (-1) = i := by simp
          have e2 : (((i - j).toNat : Nat) : Int) - ((0 : Nat) : Int) = Builtin.Range.rangeSize i j (-1) := by rw [size_down]; omega
          show IsRangeIter _ _ (i + ((0 : Nat) : Int) * (-1)) ((((i - j).toNat : Nat) : Int) - ((0 : Nat) : Int)) (-1)
          rw [e1, e2]
          exact Heap.get?_push_size _ rfl
        · obtain rfl : b = (s1.heap.push { cls := .type "range", data := .fields #[.int i t, .int j t', .int (-1) t''] }).objs.size := by simpa using hb
          exact I2.fpOk (Nat.le_refl _) (I2.hok.fresh (Nat.le_refl _))
/-- over a range by a step -/
theorem for_step {lo c : Int} {n : Nat} {g : TG} {tb : TS} {D : Ends} {σ : St} {H : Hp} (Pv : Nat → St → Hp → Prop) (h0 : Pv 0 σ H)
    (hs : ∀ i σ H, i < n → Pv i σ H → g (.int (lo + i * c)) σ H fun σ2 H2 => tb { D with nx := Pv (i + 1), ct := Pv (i + 1), bk := D.nx } σ2 H2) (hd : ∀ σ H, Pv n σ H → D.nx σ H) :
    ∃ W : Nat → Nat → St → Hp → Prop, (∃ m, W 0 m σ H) ∧ ∀ i m σ H, W i m σ H →
      ((Its lo c n).stop i H ∧ D.nx σ H) ∨ ((Its lo c n).go i H ∧ ∃ N : St → Hp → Prop, (∀ σ' H', N σ' H' → ∃ m', m' < m ∧ W (i + 1) m' σ' H') ∧ ∀ x H', (Its lo c n).yld i H x H' → g x σ H' fun σ2 H2 => tb { D with nx := N, ct := N, bk := D.nx } σ2 H2) := by
  refine ⟨fun i m σ H => m = n - i ∧ i ≤ n ∧ Pv i σ H, ⟨n, rfl, Nat.zero_le _, h0⟩, ?_⟩
  rintro i m σ H ⟨rfl, hi, p⟩
  rcases Nat.lt_or_ge i n with hlt | hge
  · exact .inr ⟨hlt, Pv (i + 1), fun σ' H' p' => ⟨n - (i + 1), by omega, rfl, hlt, p'⟩, fun x H' ⟨e1, e2⟩ => by subst e1 e2; exact hs i σ _ hlt p⟩
  · obtain rfl : i = n := by omega
    exact .inl ⟨Nat.le_refl _, hd σ H p⟩

/-! ### list(range(n)) -/
def rRng : List V → Hp → VK → Prop := fun xs H Q => ∃ j : Int, xs = [.int j] ∧ ∀ p, H p = none → Q (.ref p) (upd H p (.rng 0 j))
theorem call_rng : CallR X (.type "range") rRng := by
  intro pins s σ H xs us Q I r h
  obtain ⟨j, rfl, q⟩ := h
  obtain ⟨u, rfl, ru⟩ := r.one
  obtain ⟨t, rfl⟩ := ru
  exact call_range_1 ⟨.ref s.heap.objs.size, _, I.laid (o := .rng 0 j) (fun b o e => Heap.get?_push_of_some _ e) (Nat.le_refl _) ⟨_, _, _, Heap.get?_push_size _ rfl⟩, rfl, q _ I.fresh⟩
def rListRng : List V → Hp → VK → Prop := fun xs H Q => ∃ (p : Addr) (j : Int), xs = [.ref p] ∧ H p = some (.rng 0 j) ∧ 0 ≤ j ∧ j ≤ 100000 ∧ ∀ l, H l = none → Q (.ref l) (upd H l (.lst ((List.range j.toNat).map fun (i : Nat) => V.int i)))
theorem vals_items {n : Nat} {acc : Array Value} (h : ItemsOf (fun i v => ∃ t, v = Value.int (0 + (i : Int) * 1) t) acc n) : Vals ((List.range n).map fun (i : Nat) => V.int i) acc.toList := by
  have key : ∀ (l : List Value) (k : Nat), (∀ i v, l[i]? = some v → ∃ t, v = Value.int ((k + i : Nat) : Int) t) → Vals ((List.range' k l.length).map fun (i : Nat) => V.int i) l := by
    intro l
    induction l with
    | nil => intro k _; exact .nil
    | cons v r ih =>
      intro k hv
      rw [List.length_cons, List.range'_succ, List.map_cons]
      refine .cons ?_ (ih (k + 1) fun i w e => ?_)
      · obtain ⟨t, e⟩ := hv 0 v rfl
        exact ⟨t, by simpa using e⟩
      · obtain ⟨t, e'⟩ := hv (i + 1) w (by simpa using e)
        exact ⟨t, by rw [e']; congr 1; omega⟩
  have hl : acc.toList.length = n := by rw [Array.length_toList]; exact h.1
  have := key acc.toList 0 fun i v e => by
    obtain ⟨t, e'⟩ := h.2 i v (by simpa using e)
    exact ⟨t, by rw [e']; congr 1; omega⟩
  rw [hl] at this
  rw [List.range_eq_range']
  exact this
theorem call_list_rng (hc : X.calm = true) : CallR X (.type "list") rListRng := by
  intro pins s σ H xs us Q I r h
  obtain ⟨p, j, rfl, hp, h0, h1, q⟩ := h
  obtain ⟨u, rfl, ru⟩ := r.one
  obtain rfl : u = Value.ref p := ru
  obtain ⟨t, t', t'', e⟩ := I.hok p _ hp
  have hn : Builtin.Range.rangeSize 0 j 1 = (j.toNat : Int) := by rw [rangeSize_one]; split <;> omega
  refine call_list_range (I.ok.hd hc) (show IsRange s.heap p 0 j 1 t t' t'' from e) (small_one (by decide) (by decide) (by omega) (by omega)) hn (by omega) fun h' tk acc c' hk hS hacc => ?_
  have hz : ((List.range j.toNat).map fun (i : Nat) => V.int i).length ≤ sizeLine := by rw [List.length_map, List.length_range, sizeLine_eq]; omega
  exact ⟨.ref s.heap.objs.size, _, I.laid (t' := tk) (o := .lst ((List.range j.toNat).map fun (i : Nat) => V.int i)) hk (Nat.le_refl _) ⟨hz, acc.toList, c', vals_items hacc, by simpa using hS⟩, rfl, q _ I.fresh⟩
end
end L2
namespace Srt
open PySem PySem.W PyProof.Rows
def runT {α : Type} (o : Nat → Nat → Bool) : KasT α → α
  | .ret a => a
  | .ask i j k => runT o (k (o i j))
theorem runT_bind {α β : Type} (o : Nat → Nat → Bool) (f : α → KasT β) : ∀ t : KasT α, runT o (t.bind f) = runT o (f (runT o t))
  | .ret _ => rfl
  | .ask i j k => runT_bind o f (k (o i j))
structure Ord (o : Nat → Nat → Bool) : Prop where
  asy : ∀ a b, o a b = true → o b a = false
  tr : ∀ a b c, o b a = false → o c b = false → o c a = false
theorem Ord.irr {o : Nat → Nat → Bool} (h : Ord o) (a : Nat) : o a a = false := by
  cases e : o a a with
  | false => rfl
  | true => rw [h.asy a a e] at e; cases e
def Inc (o : Nat → Nat → Bool) (p : Array Nat) (n : Nat) : Prop := ∀ i j, i ≤ j → j < n → o (p.getD j 0) (p.getD i 0) = false
def Dec (o : Nat → Nat → Bool) (p : Array Nat) (n : Nat) : Prop := ∀ i j, i ≤ j → j < n → o (p.getD i 0) (p.getD j 0) = false
theorem getD_of {p q : Array Nat} {i j : Nat} (h : p[i]? = q[j]?) : p.getD i 0 = q.getD j 0 := by
  rw [Array.getD_eq_getD_getElem?, Array.getD_eq_getD_getElem?, h]
theorem rev_getD {p : Array Nat} {i j : Nat} (hj : j ≤ p.size) (k : Nat) : (kas_rev p i j).getD k 0 = if i ≤ k ∧ k < j then p.getD (i + j - 1 - k) 0 else p.getD k 0 := by
  unfold kas_rev
  have h := getElem?_mirror_all (xs := p) (i := i) hj k
  split
  · rename_i c; rw [if_pos c] at h; exact getD_of h
  · rename_i c; rw [if_neg c] at h; exact getD_of h
theorem rev_size (p : Array Nat) (i j : Nat) : (kas_rev p i j).size = p.size := mirror_size _ _ _ _
theorem rev_perm (p : Array Nat) (i j : Nat) : (kas_rev p i j).Perm p := mirror_perm _ _ _ _
section
variable {o : Nat → Nat → Bool} (O : Ord o)
include O
theorem Inc.succ {p : Array Nat} {n : Nat} (h : Inc o p n) (h1 : 1 ≤ n) (e : o (p.getD n 0) (p.getD (n - 1) 0) = false) : Inc o p (n + 1) := by
  intro i j hij hj
  by_cases hjn : j < n
  · exact h i j hij hjn
  · have : j = n := by omega
    subst this
    by_cases hi : i = j
    · subst hi; exact O.irr _
    · exact O.tr _ _ _ (h i (j - 1) (by omega) (by omega)) e
theorem Dec.succ {p : Array Nat} {n : Nat} (h : Dec o p n) (h1 : 1 ≤ n) (e : o (p.getD (n - 1) 0) (p.getD n 0) = false) : Dec o p (n + 1) := by
  intro i j hij hj
  by_cases hjn : j < n
  · exact h i j hij hjn
  · have : j = n := by omega
    subst this
    by_cases hi : i = j
    · subst hi; exact O.irr _
    · exact O.tr _ _ _ e (h i (j - 1) (by omega) (by omega))
theorem Inc.one {p : Array Nat} : Inc o p 1 := by
  intro i j hij hj
  have h1 : i = 0 := by omega
  have h2 : j = 0 := by omega
  subst h1 h2; exact O.irr _
theorem asc_ok (p : Array Nat) : ∀ (f n : Nat), 1 ≤ n → Inc o p n → n ≤ runT o (kas_asc p f n) ∧ runT o (kas_asc p f n) ≤ n + f ∧ Inc o p (runT o (kas_asc p f n)) ∧
    (runT o (kas_asc p f n) = n + f ∨ o (p.getD (runT o (kas_asc p f n)) 0) (p.getD (runT o (kas_asc p f n) - 1) 0) = true)
  | 0, n, _, h => ⟨Nat.le_refl _, Nat.le_refl _, h, .inl rfl⟩
  | f + 1, n, h1, h => by
    unfold kas_asc
    simp only [runT]
    cases e : o (p.getD n 0) (p.getD (n - 1) 0) with
    | true => simp only [if_true, runT]; exact ⟨Nat.le_refl _, by omega, h, .inr e⟩
    | false =>
      simp only [Bool.false_eq_true, if_false]
      obtain ⟨a, b, c, d⟩ := asc_ok p f (n + 1) (by omega) (Inc.succ O h h1 e)
      exact ⟨by omega, by omega, c, by rcases d with d | d; exact .inl (by omega); exact .inr d⟩
def Blk (o : Nat → Nat → Bool) (p : Array Nat) (n q : Nat) : Prop := q < n ∧ ∀ i, n - (q + 1) ≤ i → i < n → o (p.getD (n - 1) 0) (p.getD i 0) = false
omit O in
theorem blk_rev {p : Array Nat} {n q : Nat} (hn : n ≤ p.size) (k : Nat) (hk : k < n) : ∃ k', k' < n ∧ (kas_rev p (n - (q + 1)) n).getD k 0 = p.getD k' 0 ∧ (k' = k ∨ (n - (q + 1) ≤ k' ∧ n - (q + 1) ≤ k)) := by
  rw [rev_getD hn]
  split
  · exact ⟨_, by omega, rfl, .inr ⟨by omega, by omega⟩⟩
  · exact ⟨k, hk, rfl, .inl rfl⟩
theorem dec_rev {p : Array Nat} {n q : Nat} (hn : n ≤ p.size) (D : Dec o p n) (B : Blk o p n q) : Dec o (kas_rev p (n - (q + 1)) n) n := by
  intro i j hij hj
  obtain ⟨i', hi', ei, ci⟩ := blk_rev (q := q) hn i (by omega)
  obtain ⟨j', hj', ej, cj⟩ := blk_rev (q := q) hn j hj
  rw [ei, ej]
  by_cases h : i' ≤ j'
  · exact D i' j' h hj'
  · -- both in the block
    have h1 : n - (q + 1) ≤ j' := by omega
    have h2 : n - (q + 1) ≤ i' := by omega
    exact O.tr _ _ _ (B.2 j' h1 hj') (D i' (n - 1) (by omega) (by omega))
theorem desc_ok : ∀ (f : Nat) (p : Array Nat) (n q : Nat), 1 ≤ n → n + f ≤ p.size → Dec o p n → Blk o p n q →
    ∀ r, runT o (kas_desc f p n q) = r → r.1.Perm p ∧ r.1.size = p.size ∧ n ≤ r.2.1 ∧ r.2.1 ≤ n + f ∧ Dec o r.1 r.2.1 ∧ Blk o r.1 r.2.1 r.2.2
  | 0, p, n, q, h1, hz, D, B, r, hr => by
    simp only [kas_desc, runT] at hr
    subst hr
    exact ⟨Array.Perm.refl _, rfl, Nat.le_refl _, Nat.le_refl _, D, B⟩
  | f + 1, p, n, q, h1, hz, D, B, r, hr => by
    unfold kas_desc at hr
    simp only [runT] at hr
    cases e : o (p.getD n 0) (p.getD (n - 1) 0) with
    | true =>
      rw [e] at hr
      simp only [if_true] at hr
      have blk0 : ∀ p : Array Nat, Blk o p (n + 1) 0 := fun p => ⟨by omega, fun i hi1 hi2 => by
        have : i = n := by omega
        subst this
        exact O.irr _⟩
      by_cases hq : q > 0
      · rw [if_pos hq] at hr
        have e2 : o ((kas_rev p (n - (q + 1)) n).getD (n - 1) 0) ((kas_rev p (n - (q + 1)) n).getD n 0) = false := by
          have en : (kas_rev p (n - (q + 1)) n).getD n 0 = p.getD n 0 := by rw [rev_getD (by omega), if_neg (by omega)]
          obtain ⟨k', hk', ek, ck⟩ := blk_rev (q := q) (p := p) (n := n) (by omega) (n - 1) (by omega)
          rw [en, ek]
          refine O.tr _ _ _ (O.asy _ _ e) ?_
          rcases ck with ck | ck
          · subst ck; exact O.irr _
          · exact D k' (n - 1) (by omega) (by omega)
        have D2 := Dec.succ O (dec_rev O (by omega) D B) h1 e2
        obtain ⟨a1, a2, a3, a4, a5, a6⟩ := desc_ok f _ (n + 1) 0 (by omega) (by rw [rev_size]; omega) D2 (blk0 _) r hr
        exact ⟨a1.trans (rev_perm _ _ _), by rw [a2, rev_size], by omega, by omega, a5, a6⟩
      · rw [if_neg hq] at hr
        obtain ⟨a1, a2, a3, a4, a5, a6⟩ := desc_ok f p (n + 1) 0 (by omega) (by omega) (Dec.succ O D h1 (O.asy _ _ e)) (blk0 _) r hr
        exact ⟨a1, a2, by omega, by omega, a5, a6⟩
    | false =>
      rw [e] at hr
      simp only [Bool.false_eq_true, if_false, runT] at hr
      cases e2 : o (p.getD (n - 1) 0) (p.getD n 0) with
      | true =>
        rw [e2] at hr
        simp only [if_true, runT] at hr
        subst hr
        exact ⟨Array.Perm.refl _, rfl, Nat.le_refl _, by show n ≤ n + (f + 1); omega, D, B⟩
      | false =>
        rw [e2] at hr
        simp only [Bool.false_eq_true, if_false] at hr
        have B2 : Blk o p (n + 1) (q + 1) := by
          refine ⟨by have := B.1; omega, fun i hi1 hi2 => ?_⟩
          by_cases hi : i = n
          · subst hi; exact O.irr _
          · show o (p.getD n 0) (p.getD i 0) = false
            exact O.tr _ _ _ (B.2 i (by omega) (by omega)) e
        obtain ⟨a1, a2, a3, a4, a5, a6⟩ := desc_ok f p (n + 1) (q + 1) (by omega) (by omega) (Dec.succ O D h1 e2) B2 r hr
        exact ⟨a1, a2, by omega, by omega, a5, a6⟩
theorem inc_rev {p : Array Nat} {n : Nat} (hn : n ≤ p.size) (D : Dec o p n) : Inc o (kas_rev p 0 n) n := by
  intro i j hij hj
  rw [rev_getD hn, rev_getD hn, if_pos (by omega), if_pos (by omega)]
  exact D _ _ (by omega) (by omega)
theorem tail3_ok {n nrem : Nat} {p : Array Nat} (h1 : 1 ≤ n) (hn : n ≤ nrem) (hz : nrem ≤ p.size) (D : Dec o p n) (r : Nat × Array Nat) (hr : runT o (kas_tail3 n nrem p) = r) :
    r.2.Perm p ∧ r.2.size = p.size ∧ 1 ≤ r.1 ∧ r.1 ≤ nrem ∧ Inc o r.2 r.1 := by
  unfold kas_tail3 at hr
  rw [runT_bind] at hr
  obtain ⟨a, b, c, _⟩ := asc_ok O (kas_rev p 0 n) (nrem - n) n h1 (inc_rev O (by omega) D)
  simp only [runT] at hr
  subst hr
  exact ⟨rev_perm _ _ _, rev_size _ _ _, by show 1 ≤ runT o _; omega, by show runT o _ ≤ nrem; omega, c⟩
theorem descPart_ok {n nrem : Nat} {p : Array Nat} (h1 : 1 ≤ n) (hn : n + 1 ≤ nrem) (hz : nrem ≤ p.size) (D : Dec o p (n + 1)) (r : Nat × Array Nat) (hr : runT o (kas_descPart n nrem p) = r) :
    r.2.Perm p ∧ r.2.size = p.size ∧ 1 ≤ r.1 ∧ r.1 ≤ nrem ∧ Inc o r.2 r.1 := by
  unfold kas_descPart at hr
  rw [runT_bind] at hr
  have blk0 : Blk o p (n + 1) 0 := ⟨by omega, fun i hi1 hi2 => by
    have : i = n := by omega
    subst this
    exact O.irr _⟩
  obtain ⟨a1, a2, a3, a4, a5, a6⟩ := desc_ok O (nrem - (n + 1)) p (n + 1) 0 (by omega) (by omega) D blk0 _ rfl
  generalize runT o (kas_desc (nrem - (n + 1)) p (n + 1) 0) = d at *
  by_cases hq : d.2.2 > 0
  · rw [if_pos hq] at hr
    obtain ⟨b1, b2, b3, b4, b5⟩ := tail3_ok O (by omega) (by omega) (by rw [rev_size]; omega) (dec_rev O (by omega) a5 a6) r hr
    exact ⟨b1.trans ((rev_perm _ _ _).trans a1), by rw [b2, rev_size, a2], b3, b4, b5⟩
  · rw [if_neg hq] at hr
    obtain ⟨b1, b2, b3, b4, b5⟩ := tail3_ok O (by omega) (by omega) (by omega) a5 r hr
    exact ⟨b1.trans a1, by rw [b2, a2], b3, b4, b5⟩
theorem count_ok {nrem : Nat} {p : Array Nat} (h1 : 2 ≤ nrem) (hz : nrem ≤ p.size) (r : Nat × Array Nat) (hr : runT o (kas_count nrem p) = r) :
    r.2.Perm p ∧ r.2.size = p.size ∧ 1 ≤ r.1 ∧ r.1 ≤ nrem ∧ Inc o r.2 r.1 := by
  unfold kas_count at hr
  rw [runT_bind] at hr
  obtain ⟨a, b, c, d⟩ := asc_ok O p (nrem - 1) 1 (Nat.le_refl _) (Inc.one O)
  generalize runT o (kas_asc p (nrem - 1) 1) = n at *
  by_cases hn : (n == nrem) = true
  · rw [if_pos hn] at hr
    simp only [runT] at hr
    subst hr
    exact ⟨Array.Perm.refl _, rfl, a, by show n ≤ nrem; omega, c⟩
  · rw [if_neg hn] at hr
    have hne : n ≠ nrem := by simpa using hn
    have hst : o (p.getD n 0) (p.getD (n - 1) 0) = true := by
      rcases d with d | d
      · omega
      · exact d
    by_cases h2 : n > 1
    · rw [if_pos h2] at hr
      simp only [runT] at hr
      cases e : o (p.getD 0 0) (p.getD (n - 1) 0) with
      | true =>
        rw [e] at hr
        simp only [if_true, runT] at hr
        subst hr
        exact ⟨Array.Perm.refl _, rfl, a, by show n ≤ nrem; omega, c⟩
      | false =>
        rw [e] at hr
        simp only [Bool.false_eq_true, if_false] at hr
        have D : Dec o (kas_rev p 0 n) (n + 1) := by
          refine Dec.succ O ?_ a ?_
          · intro i j hij hj
            rw [rev_getD (by omega), rev_getD (by omega), if_pos (by omega), if_pos (by omega)]
            exact O.tr _ _ _ (c (0 + n - 1 - j) (n - 1) (by omega) (by omega)) (O.tr _ _ _ e (c 0 (0 + n - 1 - i) (Nat.zero_le _) (by omega)))
          · rw [rev_getD (by omega), rev_getD (by omega), if_pos (by omega), if_neg (by omega)]
            have e0 : 0 + n - 1 - (n - 1) = 0 := by omega
            rw [e0]
            exact O.tr _ _ _ (O.asy _ _ hst) e
        obtain ⟨b1, b2, b3, b4, b5⟩ := descPart_ok O a (by omega) (by rw [rev_size]; omega) D r hr
        exact ⟨b1.trans (rev_perm _ _ _), by rw [b2, rev_size], b3, b4, b5⟩
    · rw [if_neg h2] at hr
      have en : n = 1 := by omega
      subst en
      exact descPart_ok O a (by omega) hz (Dec.succ O (fun i j hij hj => by
        have : i = 0 := by omega
        have : j = 0 := by omega
        subst i j; exact O.irr _) (by omega) (O.asy _ _ hst)) r hr
theorem place_ok (p : Array Nat) (k : Nat) : ∀ (f l r : Nat), l ≤ r → r ≤ k → r - l ≤ f → (∀ i, i < l → o (p.getD k 0) (p.getD i 0) = false) → (∀ i, r ≤ i → i < k → o (p.getD i 0) (p.getD k 0) = false) → Inc o p k →
    ∀ z, runT o (kas_place p k f l r) = z → z ≤ k ∧ (∀ i, i < z → o (p.getD k 0) (p.getD i 0) = false) ∧ (∀ i, z ≤ i → i < k → o (p.getD i 0) (p.getD k 0) = false)
  | 0, l, r, h1, h2, h3, hl, hr, hI, z, hz => by
    simp only [kas_place, runT] at hz
    subst hz
    exact ⟨by omega, hl, fun i a b => hr i (by omega) b⟩
  | f + 1, l, r, h1, h2, h3, hl, hr, hI, z, hz => by
    unfold kas_place at hz
    by_cases c : l ≥ r
    · rw [if_pos c] at hz
      simp only [runT] at hz
      subst hz
      exact ⟨by omega, hl, fun i a b => hr i (by omega) b⟩
    · rw [if_neg c] at hz
      simp only [runT] at hz
      cases e : o (p.getD k 0) (p.getD ((l + r) / 2) 0) with
      | true =>
        rw [e] at hz
        simp only [if_true] at hz
        refine place_ok p k f l ((l + r) / 2) (by omega) (by omega) (by omega) hl (fun i a b => ?_) hI z hz
        by_cases hi : r ≤ i
        · exact hr i hi b
        · exact O.tr _ _ _ (O.asy _ _ e) (hI _ i a b)
      | false =>
        rw [e] at hz
        simp only [Bool.false_eq_true, if_false] at hz
        refine place_ok p k f ((l + r) / 2 + 1) r (by omega) (by omega) (by omega) (fun i a => ?_) hr hI z hz
        exact O.tr _ _ _ (hI i ((l + r) / 2) (by omega) (by omega)) e
theorem bubble_getD {p : Array Nat} {k l : Nat} (hk : k < p.size) (hl : l ≤ k) (i : Nat) : (bubble p k (k - l)).getD i 0 = if i = l then p.getD k 0 else if l < i ∧ i ≤ k then p.getD (i - 1) 0 else p.getD i 0 := by
  have h := getElem?_bubble (xs := p) hk (k - l) (by omega) i
  have e : k - (k - l) = l := by omega
  rw [e] at h
  by_cases c : i = l
  · rw [if_pos c] at h ⊢; exact getD_of h
  · rw [if_neg c] at h ⊢
    by_cases c2 : l < i ∧ i ≤ k
    · rw [if_pos c2] at h ⊢; exact getD_of h
    · rw [if_neg c2] at h ⊢; exact getD_of h
theorem bin_ok : ∀ (f : Nat) (p : Array Nat) (k : Nat), k + f ≤ p.size → Inc o p k → ∀ r, runT o (kas_bin f p k) = r → r.Perm p ∧ r.size = p.size ∧ Inc o r (k + f)
  | 0, p, k, hz, hI, r, hr => by
    simp only [kas_bin, runT] at hr
    subst hr
    exact ⟨Array.Perm.refl _, rfl, hI⟩
  | f + 1, p, k, hz, hI, r, hr => by
    unfold kas_bin at hr
    rw [runT_bind] at hr
    obtain ⟨a, b, c⟩ := place_ok O p k k 0 k (Nat.zero_le _) (Nat.le_refl _) (by omega) (fun i h => absurd h (Nat.not_lt_zero _)) (fun i h1 h2 => by omega) hI _ rfl
    generalize runT o (kas_place p k k 0 k) = l at *
    have hI2 : Inc o (bubble p k (k - l)) (k + 1) := by
      intro i j hij hj
      rw [bubble_getD O (by omega) a, bubble_getD O (by omega) a]
      by_cases h1 : i = j
      · subst h1; exact O.irr _
      · by_cases hi : i = l
        · rw [if_pos hi, if_neg (by omega), if_pos (by omega)]
          exact c _ (by omega) (by omega)
        · rw [if_neg hi]
          by_cases hjl : j = l
          · rw [if_pos hjl, if_neg (by omega)]
            exact b i (by omega)
          · rw [if_neg hjl]
            by_cases hi2 : l < i ∧ i ≤ k
            · rw [if_pos hi2, if_pos (by omega)]
              exact hI _ _ (by omega) (by omega)
            · rw [if_neg hi2]
              by_cases hj2 : l < j ∧ j ≤ k
              · rw [if_pos hj2]; exact hI _ _ (by omega) (by omega)
              · rw [if_neg hj2]; exact hI _ _ (by omega) (by omega)
    obtain ⟨x1, x2, x3⟩ := bin_ok f (bubble p k (k - l)) (k + 1) (by rw [bubble_size]; omega) hI2 r hr
    exact ⟨x1.trans (bubble_perm _ _ _), by rw [x2, bubble_size], by rw [show k + (f + 1) = k + 1 + f by omega]; exact x3⟩
theorem sort_ok {n : Nat} (h2 : 2 ≤ n) (r : Array Nat) (hr : runT o (kas_sort n) = r) : r.Perm (List.toArray (List.range n)) ∧ r.size = n ∧ Inc o r n := by
  unfold kas_sort at hr
  rw [runT_bind] at hr
  obtain ⟨a, b, c, d, e⟩ := count_ok O h2 (p := List.toArray (List.range n)) (by simp) _ rfl
  generalize runT o (kas_count n (List.toArray (List.range n))) = q at *
  have hs : q.2.size = n := by rw [b]; simp
  by_cases hq : q.1 < n
  · rw [if_pos hq] at hr
    have em : max q.1 1 = q.1 := by omega
    rw [em] at hr
    obtain ⟨x1, x2, x3⟩ := bin_ok O (n - q.1) q.2 q.1 (by omega) e r hr
    exact ⟨x1.trans a, by rw [x2, hs], by rw [show q.1 + (n - q.1) = n by omega] at x3; exact x3⟩
  · rw [if_neg hq] at hr
    simp only [runT] at hr
    subst hr
    exact ⟨a, hs, by rw [show q.1 = n by omega] at e; exact e⟩
end
end Srt
namespace Srt
open PySem PySem.W PyProof.Rows
/-- every question is about places below n; what is told keeps R -/
def Bd {α : Type} (n : Nat) (R : α → Prop) : KasT α → Prop
  | .ret a => R a
  | .ask i j k => i < n ∧ j < n ∧ ∀ b, Bd n R (k b)
theorem Bd.bind {α β : Type} {n : Nat} {R : α → Prop} {R' : β → Prop} {f : α → KasT β} (hf : ∀ a, R a → Bd n R' (f a)) : ∀ {t : KasT α}, Bd n R t → Bd n R' (t.bind f)
  | .ret a, h => hf a h
  | .ask _ _ k, h => ⟨h.1, h.2.1, fun b => Bd.bind hf (h.2.2 b)⟩
def Lt (n : Nat) (p : Array Nat) : Prop := 0 < n ∧ ∀ x ∈ p.toList, x < n
theorem Lt.get {n : Nat} {p : Array Nat} (h : Lt n p) (k : Nat) : p.getD k 0 < n := by
  rw [Array.getD_eq_getD_getElem?]
  cases e : p[k]? with
  | none => exact h.1
  | some x =>
    refine h.2 x ?_
    exact Array.mem_toList_iff.mpr (Array.mem_of_getElem? e)
theorem Lt.perm {n : Nat} {p q : Array Nat} (h : Lt n p) (e : q.Perm p) : Lt n q := ⟨h.1, fun x hx => h.2 x ((Array.perm_iff_toList_perm.mp e).mem_iff.mp hx)⟩
theorem Lt.rev {n : Nat} {p : Array Nat} (h : Lt n p) (i j : Nat) : Lt n (kas_rev p i j) := h.perm (rev_perm _ _ _)
theorem asc_bd {n : Nat} {p : Array Nat} (h : Lt n p) : ∀ f k, Bd n (fun _ => True) (kas_asc p f k)
  | 0, _ => trivial
  | f + 1, k => by
    refine ⟨h.get _, h.get _, fun b => ?_⟩
    cases b with
    | true => exact trivial
    | false => exact asc_bd h f (k + 1)
theorem desc_bd {n : Nat} : ∀ f (p : Array Nat) k q, Lt n p → Bd n (fun r => Lt n r.1) (kas_desc f p k q)
  | 0, _, _, _, h => h
  | f + 1, p, k, q, h => by
    refine ⟨h.get _, h.get _, fun b => ?_⟩
    cases b with
    | true =>
      by_cases hq : q > 0
      · simp only [if_true, if_pos hq]; exact desc_bd f _ _ _ (h.rev _ _)
      · simp only [if_true, if_neg hq]; exact desc_bd f _ _ _ h
    | false =>
      simp only [Bool.false_eq_true, if_false]
      refine ⟨h.get _, h.get _, fun c => ?_⟩
      cases c with
      | true => exact h
      | false => exact desc_bd f _ _ _ h
theorem tail3_bd {n k m : Nat} {p : Array Nat} (h : Lt n p) : Bd n (fun r => Lt n r.2) (kas_tail3 k m p) := by
  refine (asc_bd (h.rev 0 k) _ _).bind fun z _ => ?_
  show Lt n (kas_rev p 0 k)
  exact h.rev _ _
theorem descPart_bd {n k m : Nat} {p : Array Nat} (h : Lt n p) : Bd n (fun r => Lt n r.2) (kas_descPart k m p) := by
  refine (desc_bd _ _ _ _ h).bind fun r hr => ?_
  by_cases hq : r.2.2 > 0
  · rw [if_pos hq]; exact tail3_bd (Lt.rev hr _ _)
  · rw [if_neg hq]; exact tail3_bd hr
theorem count_bd {n m : Nat} {p : Array Nat} (h : Lt n p) : Bd n (fun r => Lt n r.2) (kas_count m p) := by
  refine (asc_bd h _ _).bind fun k _ => ?_
  by_cases h1 : (k == m) = true
  · rw [if_pos h1]; exact h
  · rw [if_neg h1]
    by_cases h2 : k > 1
    · rw [if_pos h2]
      refine ⟨h.get _, h.get _, fun b => ?_⟩
      cases b with
      | true => exact h
      | false => exact descPart_bd (h.rev _ _)
    · rw [if_neg h2]; exact descPart_bd h
theorem place_bd {n : Nat} {p : Array Nat} {k : Nat} (h : Lt n p) : ∀ f l r, Bd n (fun _ => True) (kas_place p k f l r)
  | 0, _, _ => trivial
  | f + 1, l, r => by
    unfold kas_place
    by_cases c : l ≥ r
    · rw [if_pos c]; exact trivial
    · rw [if_neg c]
      refine ⟨h.get _, h.get _, fun b => ?_⟩
      cases b with
      | true => exact place_bd h f _ _
      | false => exact place_bd h f _ _
theorem bin_bd {n : Nat} : ∀ f (p : Array Nat) k, Lt n p → Bd n (fun r => Lt n r) (kas_bin f p k)
  | 0, _, _, h => h
  | f + 1, p, k, h => (place_bd h k 0 k).bind fun l _ => bin_bd f _ _ (h.perm (bubble_perm _ _ _))
theorem sort_bd {n : Nat} (h : 0 < n) : Bd n (fun r => Lt n r) (kas_sort n) := by
  refine (count_bd (n := n) ⟨h, fun x hx => by simpa using hx⟩).bind fun r hr => ?_
  by_cases c : r.1 < n
  · rw [if_pos c]; exact bin_bd _ _ _ hr
  · rw [if_neg c]; exact hr
theorem wp_run {α : Type} {n : Nat} {R : α → Prop} {o : Nat → Nat → Bool} {cmp : Nat → Nat → (Bool → Shared → Prop) → Shared → Prop} {s : Shared} {Q : α → Shared → Prop}
    (hc : ∀ i j C, i < n → j < n → C (o i j) s → cmp i j C s) : ∀ {t : KasT α}, Bd n R t → Q (runT o t) s → t.kasWp cmp Q s
  | .ret _, _, h => h
  | .ask i j k, b, h => hc i j _ b.1 b.2.1 (wp_run hc (b.2.2 (o i j)) h)

section
variable {prog : Program} {w : World} {A : Around} {E : Value → Shared → Prop} {s : Shared}
/-- sorting a list whose keys' order is known, and whose asking changes nothing -/
theorem list_srt {a : Addr} {vs : List Value} {n : Nat} {P : PySem.Fin → Shared → Prop} {o : Nat → Nat → Bool} {κ : SortKind} (O : Ord o) (ho : s.heap.get? a = some (seqObj "list" vs.toArray n)) (h64 : vs.length < 64)
    (hk : 2 ≤ vs.length → ∀ (h' : Heap) (Q' : SortKind → Shared → Prop) (E' : Value → Shared → Prop), (∀ b ob, b ≠ a → s.heap.get? b = some ob → h'.get? b = some ob) → Q' κ { s with heap := h' } → wpAny (model prog w) A (keyKind' vs.toArray) Q' E' { s with heap := h' })
    (hc : ∀ (h' : Heap) (i j : Nat) (Q' : Bool → Shared → Prop), (∀ b ob, b ≠ a → s.heap.get? b = some ob → h'.get? b = some ob) → i < vs.length → j < vs.length → Q' (o i j) { s with heap := h' } →
      wpAny (model prog w) A (keyLt' κ (vs.getD i Value.none) (vs.getD j Value.none)) Q' (fun _ _ => False) { s with heap := h' })
    (h : ∀ p : Array Nat, p.Perm (List.toArray (List.range vs.length)) → Inc o p vs.length → P (.done (.ret .none)) { s with heap := sortedHeap s.heap a vs (p.toList.map fun i => vs.getD i Value.none).toArray }) :
    wpAny (model prog w) A (Builtin.«list.sort» ⟨[.ref a], []⟩) P E s := by
  have ha : a < s.heap.objs.size := Heap.lt_size ho
  have hline : vs.length ≤ sizeLine := by rw [sizeLine_eq]; omega
  obtain ⟨e1, ho1⟩ : ∃ e1, (s.heap.update a (Obj.mapSeq fun _ => (#[] : Array Value))).get? a = some (seqObj "list" #[] e1) := ⟨_, get?_update_seq ho fun _ => #[]⟩
  have keep : ∀ b ob, b ≠ a → s.heap.get? b = some ob → (((s.heap.update a (Obj.mapSeq fun _ => (#[] : Array Value))).push (seqObj "tuple" vs.toArray 0)).push (seqObj "list" #[] 0)).get? b = some ob := fun b ob hb e =>
    Heap.get?_push_of_some _ (Heap.get?_push_of_some _ ((Heap.get?_update_ne _ _ _ _ hb).trans e))
  have ho6 := Heap.get?_push_of_some (seqObj "list" #[] 0) (Heap.get?_push_of_some (seqObj "tuple" vs.toArray 0) ho1)
  rw [list_sort_plain]
  refine wpAny_bind (listItems_at ho rfl (wpAny_bind (listUpdate_at ho rfl (wpAny_bind (seqEpoch_at ho1 rfl (wpAny_bind (wpAny_newTuple (wpAny_bind (wpAny_newList (wpAny_holding ?_) (Nat.zero_le _))) hline)))) (by rw [List.size_toArray]; exact hline) (Nat.zero_le _))))
  show wpAny (model prog w) A _ P E { s with heap := ((s.heap.update a (Obj.mapSeq fun _ => (#[] : Array Value))).push (seqObj "tuple" vs.toArray 0)).push (seqObj "list" #[] 0) }
  have fin : ∀ p : Array Nat, p.Perm (List.toArray (List.range vs.length)) → Inc o p vs.length → ∀ st : SortSt, (arrOf st).map (·.2) = (p.toList.map fun i => vs.getD i Value.none).toArray → failedOf st = none → (p.size = vs.length) →
      wpAny (model prog w) A (do
        let touched := (← seqEpoch a) != e1
        Builtin.List.listUpdate (.ref a) fun _ => (arrOf st).map (·.2)
        if let some e := failedOf st then rule "list.sort.comparison-raised"; throw e
        if touched then rule "list.sort.modified"; raiseError "ValueError" "list modified during sort"
        ret .none) P E { s with heap := ((s.heap.update a (Obj.mapSeq fun _ => (#[] : Array Value))).push (seqObj "tuple" vs.toArray 0)).push (seqObj "list" #[] 0) } := by
    intro p hp hi st ha' hf hz
    refine wpAny_bind (seqEpoch_at ho6 rfl (wpAny_bind (listUpdate_at ho6 rfl ?_ (Nat.zero_le _) ?_)))
    · rw [hf]
      simp only [bne_self_eq_false, Bool.false_eq_true, if_false, ha']
      exact wpAny_pure (h p hp hi)
    · rw [ha', List.size_toArray, List.length_map, Array.length_toList, hz]
      omega
  by_cases h2 : vs.toArray.size < 2
  · rw [if_pos h2, if_pos h2]
    refine wpAny_bind (wpAny_pure ?_)
    dsimp only
    rw [StateT.run_pure]
    refine wpAny_bind (wpAny_pure (fin (List.toArray (List.range vs.length)) (Array.Perm.refl _) (fun i j hij hj => ?_) _ ?_ rfl (by simp)))
    · rw [List.size_toArray] at h2
      have e : i = j := by omega
      subst e
      exact O.irr _
    · show (vs.toArray.zip vs.toArray).map (·.2) = _
      apply Array.toList_inj.mp
      rw [List.size_toArray] at h2
      match vs, h2 with
      | [], _ => simp
      | [v], _ => simp
      | _ :: _ :: _, h2 => simp at h2; omega
  · rw [if_neg h2, if_neg h2]
    rw [List.size_toArray] at h2
    refine wpAny_bind (hk (by omega) _ _ _ keep ?_)
    dsimp only
    refine wpAny_bind (wpAny_mono (kat_run (ks := vs) (vs := vs) (κ := κ) (Q := fun st' s' => ∃ p : Array Nat, p.Perm (List.toArray (List.range vs.length)) ∧ p.size = vs.length ∧ Inc o p vs.length ∧ (arrOf st').map (·.2) = (p.toList.map fun i => vs.getD i Value.none).toArray ∧ failedOf st' = none ∧
        s' = { s with heap := ((s.heap.update a (Obj.mapSeq fun _ => (#[] : Array Value))).push (seqObj "tuple" vs.toArray 0)).push (seqObj "list" #[] 0) })
      (G := fun p s' => s' = { s with heap := ((s.heap.update a (Obj.mapSeq fun _ => (#[] : Array Value))).push (seqObj "tuple" vs.toArray 0)).push (seqObj "list" #[] 0) } ∧ p = runT o (kas_sort vs.length)) rfl (by omega) h64
      (fun p st' s' z1 z2 z3 z4 => ?_) (wp_run (o := o) (fun i j C hi hj q => ?_) (sort_bd (by omega)) ⟨rfl, rfl⟩)) (fun r s' hq => ?_) fun _ _ e => e)
    · obtain ⟨w1, w2, w3⟩ := sort_ok O (by omega) p z4.2.symm
      exact ⟨p, w1, z1, w3, kat_snds rfl z2, z3, z4.1⟩
    · exact hc _ i j C keep hi hj q
    · obtain ⟨⟨⟩, st'⟩ := r
      obtain ⟨p, hp, hz, hi, ha', hf, rfl⟩ := hq
      exact fin p hp hi st' ha' hf hz
end
end Srt
namespace L2
open PySem PySem.Spec PyProof.Rows
/-! ### enumerate over a tuple -/
section
variable {prog : Program} {w : World} {A : Around} {E : Value → Shared → Prop} {s : Shared}
end
/-- the tuple at a, with its places: each turn a new pair -/
def Ite (K : PySem.W.Frag) (a : Addr) : It :=
  ⟨fun i H => ∃ xs x, SqT K H a xs ∧ xs[i]? = some x, fun i H x H' => ∃ T y, H T = none ∧ x = .ref T ∧ H' = upd H T (.tup [.int i, y]) ∧ ∀ xs, SqT K H a xs → xs[i]? = some y, fun i H => ∃ xs, SqT K H a xs ∧ xs.length = i⟩
section
variable {X : Cx}
def iEnum (K : PySem.W.Frag) (ta : TA) : TI := fun σ H R => ta σ H fun vs H1 => ∃ a, vs = [.ref a] ∧ (∃ xs, SqT K H1 a xs) ∧ R (Ite K a) H1
end

/-! ### sorted, of tuples of two ints -/
def PrV (K : PySem.W.Frag) (H : Hp) (v : V) (p : Int × Int) : Prop := ∃ a, v = .ref a ∧ SqT K H a [.int p.1, .int p.2]
def lexI (a b : Int × Int) : Bool := if a.1 = b.1 then decide (a.2 < b.2) else decide (a.1 < b.1)
theorem lexI_ord (f : Nat → Int × Int) : Srt.Ord fun i j => lexI (f i) (f j) := by
  constructor
  · intro a b h
    unfold lexI at h ⊢
    by_cases e : (f a).1 = (f b).1
    · rw [if_pos e, decide_eq_true_eq] at h
      rw [if_pos e.symm, decide_eq_false_iff_not]
      omega
    · rw [if_neg e, decide_eq_true_eq] at h
      rw [if_neg (Ne.symm e), decide_eq_false_iff_not]
      omega
  · intro a b c h1 h2
    unfold lexI at h1 h2 ⊢
    split at h1 <;> split at h2 <;> split <;> simp only [decide_eq_false_iff_not] at h1 h2 ⊢ <;> omega
theorem paired_get {α β : Type} {F : α → β → Prop} : ∀ {xs : List α} {ys : List β} {i : Nat} {x : α}, Paired F xs ys → xs[i]? = some x → ∃ y, ys[i]? = some y ∧ F x y
  | _, _, _, _, .nil, e => by simp at e
  | _, _, 0, _, .cons r _, e => by
    obtain rfl := by simpa using e
    exact ⟨_, rfl, r⟩
  | _, _, i + 1, x, .cons _ t, e => by
    obtain ⟨y, h1, h2⟩ := paired_get (i := i) (x := x) t (by simpa using e)
    exact ⟨y, by simpa using h1, h2⟩
theorem paired_of {α β : Type} {F : α → β → Prop} : ∀ {xs : List α} {ys : List β}, xs.length = ys.length → (∀ (i : Nat) x y, xs[i]? = some x → ys[i]? = some y → F x y) → Paired F xs ys
  | [], [], _, _ => .nil
  | x :: xs, y :: ys, hl, h => .cons (h 0 x y rfl rfl) (paired_of (by simpa using hl) fun i a b e1 e2 => h (i + 1) a b (by simpa using e1) (by simpa using e2))
section
variable {X : Cx} {pins : List (Addr × Obj)} {σ : St} {H : Hp} {s : Shared}
theorem call_sortedP : CallR X (.builtin "sorted") (fun xs H Q => ∃ (p : Addr) (ys : List V) (ps : List (Int × Int)) (F : V → Int × Int → Prop), xs = [.ref p] ∧ (SqL X.K H p ys ∨ SqT X.K H p ys) ∧ Paired F ys ps ∧ (∀ v q, F v q → PrV X.K H v q) ∧ ys.length < 64 ∧
    ∀ (l : Addr) (zs : List V) (qs : List (Int × Int)), H l = none → Paired F zs qs → zs.Perm ys → qs.Perm ps → qs.Pairwise (fun a b => lexI b a = false) → Q (.ref l) (upd H l (.lst zs))) := by
  intro pins s σ H xs us Q I r h
  obtain ⟨p, ys, ps, Fr, rfl, hsq, hp, hFr, h64, q⟩ := h
  obtain ⟨u, rfl, ru⟩ := r.one
  obtain rfl : u = Value.ref p := ru
  have hline : ys.length ≤ sizeLine := by rw [sizeLine_eq]; omega
  obtain ⟨its, rv, T, o, n, hT, ho, hc, hd⟩ : ∃ (its : List Value), Vals ys its ∧ ∃ (T : String) (o : Obj) (n : Nat), (T = "list" ∨ T = "tuple") ∧ s.heap.get? p = some o ∧ o.cls = .type T ∧ o.data = .seq its.toArray n := by
    rcases hsq with hsq | hsq
    · obtain ⟨its, rv, pl, _⟩ := I.list hsq
      obtain ⟨o, ho, hc, n, hd⟩ := pl.isList
      exact ⟨its, rv, _, o, n, .inl rfl, ho, hc, hd⟩
    · obtain ⟨its, rv, pl, _⟩ := I.tuple hsq
      obtain ⟨o, ho, hc, n, hd⟩ := pl
      exact ⟨its, rv, _, o, n, .inr rfl, ho, hc, hd⟩
  have hlen := rv.length
  have hlp := Paired.length hp
  -- each item is a tuple of two ints, and stays so
  have item : ∀ i, i < its.length → ∃ a ob tk tk', its.getD i Value.none = .ref a ∧ s.heap.get? a = some ob ∧ ob.cls = .type "tuple" ∧ (∃ k, ob.data = .seq #[.int (ps.getD i (0, 0)).1 tk, .int (ps.getD i (0, 0)).2 tk'] k) := by
    intro i hi
    obtain ⟨y, hy⟩ : ∃ y, ys[i]? = some y := ⟨ys[i]'(by omega), List.getElem?_eq_getElem (by omega)⟩
    obtain ⟨u, hu, ru⟩ := rv.get hy
    obtain ⟨pr, hpr, hpf⟩ := paired_get hp hy
    obtain ⟨a, rfl, ht⟩ := hFr _ _ hpf
    obtain rfl : u = Value.ref a := ru
    obtain ⟨jt, jv, pt, _⟩ := I.tuple ht
    obtain ⟨ob, h1, h2, k, h3⟩ := pt
    cases jv with
    | cons r1 rr =>
      cases rr with
      | cons r2 rr =>
        cases rr
        obtain ⟨t1, rfl⟩ := r1
        obtain ⟨t2, rfl⟩ := r2
        refine ⟨a, ob, t1, t2, by simp [List.getD, hu], h1, h2, k, ?_⟩
        have : ps.getD i (0, 0) = pr := by simp [List.getD, hpr]
        rw [this]
        exact h3
  refine Calls.call_function_entry kind_sorted plain_sorted entry_sorted (args_sorted1 _) ?_
  unfold Builtin.«sorted»
  refine wpAny_bind (m := checkCount "sorted" 1 1 _) (wpAny_pure ?_)
  refine wpAny_bind (wpAny_collect_seq p hT ho hc hd (fun h1 k1 => ?_) (by rw [List.size_toArray, ← hlen]; exact hline))
  have I1 : Inv X pins σ H { s with heap := h1 } := I.kept (t' := s.toks) k1
  refine wpAny_bind (wpAny_newList ?_ (by show its.toArray.toList.length ≤ sizeLine; rw [List.toList_toArray, ← hlen]; exact hline))
  have hoL : (h1.push (seqObj "list" its.toArray 0)).get? h1.objs.size = some (seqObj "list" its.toArray 0) := Heap.get?_push_size _ rfl
  have k2 : ∀ b ob, h1.get? b = some ob → (h1.push (seqObj "list" its.toArray 0)).get? b = some ob := fun b ob e => Heap.get?_push_of_some _ e
  have nL : ∀ b ob, s.heap.get? b = some ob → b ≠ h1.objs.size := fun b ob e => Nat.ne_of_lt (Heap.lt_size (k1 b ob e))
  show wpAny _ _ (holding [Value.ref h1.objs.size] (call (.builtin "list.sort") [Value.ref h1.objs.size]) >>= _) _ _ { s with heap := h1.push (seqObj "list" its.toArray 0) }
  refine wpAny_bind (wpAny_holding (wpAny_call_entry slot_list_sort ⟨_, hoL, rfl⟩ entry_list_sort (Srt.list_srt (o := fun i j => lexI (ps.getD i (0, 0)) (ps.getD j (0, 0))) (κ := tuples' true) (lexI_ord _) hoL (by omega) ?hk ?hc fun pm hpm hinc => ⟨_, rfl, wpAny_pure ⟨_, rfl, ?_⟩⟩) (args_list_sort _)))
  case hk =>
    intro h2 h' Q' E' kp hq
    have tups : ∀ (l : List Value), (∀ v ∈ l, ∃ i, i < its.length ∧ its.getD i Value.none = v) → ∃ fs, PySem.W.KatTups h' l fs ∧ l.length = fs.length ∧ ∀ v ∈ fs, ∃ n t, v = Value.int n t := by
      intro l
      induction l with
      | nil => intro _; exact ⟨[], trivial, rfl, fun v hv => by simp at hv⟩
      | cons v r ih =>
        intro hl
        obtain ⟨fs, f1, f2, f3⟩ := ih fun v hv => hl v (List.mem_cons_of_mem _ hv)
        obtain ⟨i, hi, e⟩ := hl v List.mem_cons_self
        obtain ⟨a, ob, t1, t2, e2, g1, g2, k, g3⟩ := item i hi
        rw [e] at e2
        subst e2
        refine ⟨.int (ps.getD i (0, 0)).1 t1 :: fs, PySem.W.KatTups.cons (kp a ob (nL a ob g1) (k2 a ob (k1 a ob g1))) g2 g3 rfl f1, by simp [f2], fun v hv => ?_⟩
        rcases List.mem_cons.mp hv with rfl | hv
        · exact ⟨_, _, rfl⟩
        · exact f3 v hv
    obtain ⟨fs, f1, f2, f3⟩ := tups its fun v hv => by
      obtain ⟨i, hi, e⟩ := List.getElem_of_mem hv
      exact ⟨i, hi, by simp [List.getD, hi, e]⟩
    refine PySem.W.kat_kind (s := { s with heap := h' }) (T := .type "int") f1 (by omega) (fun v hv => ?_) rfl hq
    obtain ⟨n, t, rfl⟩ := f3 v hv
    exact .now
  case hc =>
    intro h' i j Q' kp hi hj hq
    obtain ⟨a, ob, t1, t2, e1, g1, g2, k, g3⟩ := item i hi
    obtain ⟨b, ob', u1, u2, e2, g4, g5, k', g6⟩ := item j hj
    rw [e1, e2]
    refine PySem.W.kat_lt (s := { s with heap := h' }) (kp a ob (nL a ob g1) (k2 a ob (k1 a ob g1))) g3 (kp b ob' (nL b ob' g4) (k2 b ob' (k1 b ob' g4))) g6 ?_
    refine PySem.W.kat_cons (wpAny_eqBool_int ?_)
    by_cases e3 : (ps.getD i (0, 0)).1 = (ps.getD j (0, 0)).1
    · have hq' : Q' (decide ((ps.getD i (0, 0)).2 < (ps.getD j (0, 0)).2)) { s with heap := h' } := by
        have : lexI (ps.getD i (0, 0)) (ps.getD j (0, 0)) = decide ((ps.getD i (0, 0)).2 < (ps.getD j (0, 0)).2) := by unfold lexI; rw [if_pos e3]
        rw [← this]; exact hq
      rw [beq_iff_eq.mpr e3]
      refine PySem.W.kat_yes (PySem.W.kat_cons (wpAny_eqBool_int ?_))
      by_cases e4 : (ps.getD i (0, 0)).2 = (ps.getD j (0, 0)).2
      · rw [beq_iff_eq.mpr e4]
        refine PySem.W.kat_yes (PySem.W.kat_nil ?_)
        have : decide ((ps.getD i (0, 0)).2 < (ps.getD j (0, 0)).2) = false := decide_eq_false (by omega)
        rw [this] at hq'
        exact hq'
      · rw [beq_eq_false_iff_ne.mpr e4]
        exact PySem.W.kat_no (PySem.W.kat_one _ _ (lt_int hq'))
    · have hq' : Q' (decide ((ps.getD i (0, 0)).1 < (ps.getD j (0, 0)).1)) { s with heap := h' } := by
        have : lexI (ps.getD i (0, 0)) (ps.getD j (0, 0)) = decide ((ps.getD i (0, 0)).1 < (ps.getD j (0, 0)).1) := by unfold lexI; rw [if_neg e3]
        rw [← this]; exact hq
      rw [beq_eq_false_iff_ne.mpr e3]
      exact PySem.W.kat_no (oneLt_int hq')
  -- the new list
  have pml : pm.toList.Perm (List.range its.length) := by simpa using (Array.perm_iff_toList_perm.mp hpm)
  have pmlt : ∀ i ∈ pm.toList, i < its.length := fun i hi => List.mem_range.mp (pml.mem_iff.mp hi)
  obtain ⟨ep, hat⟩ := sortedHeap_at (out := (pm.toList.map fun i => its.getD i Value.none).toArray) hoL
  have old : ∀ b ob, h1.get? b = some ob → (sortedHeap (h1.push (seqObj "list" its.toArray 0)) h1.objs.size its (pm.toList.map fun i => its.getD i Value.none).toArray).get? b = some ob := fun b ob e => by
    rw [sortedHeap_old (Nat.ne_of_lt (Heap.lt_size e)) (by rw [size_push']; exact Nat.lt_succ_of_lt (Heap.lt_size e))]
    exact k2 b ob e
  have nvals : Vals (pm.toList.map fun i => ys.getD i V.non) (pm.toList.map fun i => its.getD i Value.none) := by
    refine paired_of (by simp) fun i x u e1 e2 => ?_
    rw [List.getElem?_map] at e1 e2
    cases e : pm.toList[i]? with
    | none => rw [e] at e1; cases e1
    | some m =>
      rw [e] at e1 e2
      cases e1
      cases e2
      have hm := pmlt m (List.mem_of_getElem? e)
      obtain ⟨u, hu, ru⟩ := rv.get (List.getElem?_eq_getElem (by omega : m < ys.length))
      simp only [List.getD, List.getElem?_eq_getElem (by omega : m < ys.length), hu, Option.getD_some]
      exact ru
  have hz : (pm.toList.map fun i => ys.getD i V.non).length ≤ sizeLine := by rw [List.length_map, pml.length_eq, List.length_range]; omega
  have permOf : ∀ {α : Type} (l : List α) (d : α), l.length = its.length → (pm.toList.map fun i => l.getD i d).Perm l := fun {α} l d hl => by
    have e : (List.range its.length).map (fun i => l.getD i d) = l := by
      rw [← hl]
      apply List.ext_getElem?
      intro k
      rw [List.getElem?_map]
      by_cases hk : k < l.length
      · simp [List.getD, hk]
      · rw [List.getElem?_eq_none (by simpa using hk), List.getElem?_eq_none (by simpa using hk)]
        rfl
    have := pml.map fun i => l.getD i d
    rw [e] at this
    exact this
  have I2 := I1.laid (t' := s.toks) (a := h1.objs.size) (o := .lst (pm.toList.map fun i => ys.getD i V.non)) old (Nat.le_refl _) ⟨hz, _, ep, nvals, hat⟩
  refine ⟨.ref h1.objs.size, _, I2, rfl, q _ _ (pm.toList.map fun i => ps.getD i (0, 0)) I1.fresh (paired_of (by simp) fun i x y e1 e2 => ?_) (permOf ys V.non (by omega)) (permOf ps (0, 0) (by omega)) ?_⟩
  · rw [List.getElem?_map] at e1 e2
    cases e : pm.toList[i]? with
    | none => rw [e] at e1; cases e1
    | some m =>
      rw [e] at e1 e2
      cases e1
      cases e2
      have hm := pmlt m (List.mem_of_getElem? e)
      obtain ⟨y, hy, hF⟩ := paired_get hp (List.getElem?_eq_getElem (by omega : m < ys.length))
      simp only [List.getD, List.getElem?_eq_getElem (by omega : m < ys.length), hy, Option.getD_some]
      exact hF
  · rw [List.pairwise_map]
    rw [List.pairwise_iff_getElem]
    intro i j hi hj hij
    have hj' : j < its.length := by rw [pml.length_eq, List.length_range] at hj; exact hj
    have := hinc i j (Nat.le_of_lt hij) hj'
    simp only [Array.getD_eq_getD_getElem?] at this
    rw [show pm[i]? = some (pm.toList[i]) by rw [← Array.getElem?_toList]; exact List.getElem?_eq_getElem hi, show pm[j]? = some (pm.toList[j]) by rw [← Array.getElem?_toList]; exact List.getElem?_eq_getElem hj] at this
    exact this
end
end L2
namespace L2
open PySem PySem.Spec PyProof.Rows
theorem Same.sqT {K : PySem.W.Frag} {H H' : Hp} {a : Addr} {xs : List V} (e : Same H H') (h : SqT K H a xs) : SqT K H' a xs := by
  rcases h with (h | ⟨o, h⟩) | h
  · exact .inl (.inl (e _ _ h))
  · exact .inl (.inr ⟨o, e _ _ h⟩)
  · exact .inr h
/-- a comprehension whose items are told by a function; the heap may grow -/
theorem comp_fun {J : It} {σb : V → St} {tc : TT} {te : TE} {D : Addr} {Q : VK} {H : Hp} {xs : List V} (f : V → Option V) (hz : xs.length < sizeLine) (hD : H D = none)
    (hgo : ∀ i H', i < xs.length → Same H H' → J.go i H') (hy : ∀ (i : Nat) H' x H'', i < xs.length → Same H H' → J.yld i H' x H'' → H'' = H' ∧ xs[i]? = some x) (hst : ∀ H', Same H H' → J.stop xs.length H')
    (step : ∀ x ∈ xs, ∀ H', Same H H' → ∀ R : Option V → Hp → Prop, (∀ H'', Same H' H'' → R (f x) H'') → tc (σb x) H' fun b H2 => if b = true then te (σb x) H2 fun y H3 => R (some y) H3 else R none H2)
    (hQ : ∀ H', H' D = some (.lst (xs.filterMap f)) → Same H H' → Q (.ref D) H') : CompW J σb tc te D Q H := by
  refine ⟨fun i m ys H' => m = xs.length - i ∧ i ≤ xs.length ∧ ys = (xs.take i).filterMap f ∧ H' D = some (.lst ys) ∧ Same H H', ⟨xs.length, rfl, Nat.zero_le _, rfl, upd_same, fun b o e => ?_⟩, ?_⟩
  · rw [upd_ne (ne_of_none e hD)]; exact e
  · rintro i m ys H' ⟨rfl, hi, rfl, hd, hs⟩
    refine ⟨hd, ?_⟩
    rcases Nat.lt_or_ge i xs.length with hlt | hge
    · refine .inr ⟨hgo i H' hlt hs, fun x H'' hyl => ?_⟩
      obtain ⟨rfl, hx⟩ := hy i H' x H'' hlt hs hyl
      have htk : xs.take (i + 1) = xs.take i ++ [x] := by rw [List.take_add_one, hx]; rfl
      have hlen : ((xs.take i).filterMap f).length < sizeLine := Nat.lt_of_le_of_lt (Nat.le_trans (List.length_filterMap_le _ _) (by rw [List.length_take]; omega)) hz
      refine step x (List.mem_of_getElem? hx) _ hs (fun o H3 => match o with
        | some y => H3 D = some (.lst ((xs.take i).filterMap f)) ∧ ((xs.take i).filterMap f).length < sizeLine ∧ ∃ m', m' < xs.length - i ∧ (m' = xs.length - (i + 1) ∧ i + 1 ≤ xs.length ∧ (xs.take i).filterMap f ++ [y] = (xs.take (i + 1)).filterMap f ∧ (upd H3 D (.lst ((xs.take i).filterMap f ++ [y]))) D = some (.lst ((xs.take i).filterMap f ++ [y])) ∧ Same H (upd H3 D (.lst ((xs.take i).filterMap f ++ [y]))))
        | none => ∃ m', m' < xs.length - i ∧ (m' = xs.length - (i + 1) ∧ i + 1 ≤ xs.length ∧ (xs.take i).filterMap f = (xs.take (i + 1)).filterMap f ∧ H3 D = some (.lst ((xs.take i).filterMap f)) ∧ Same H H3)) fun H3 s3 => ?_
      have s4 : Same H H3 := hs.trans s3
      cases e : f x with
      | some y =>
        refine ⟨s3 _ _ hd, hlen, _, ?_, rfl, hlt, ?_, upd_same, fun b o q => ?_⟩
        · omega
        · rw [htk, List.filterMap_append]; simp [e]
        · rw [upd_ne (ne_of_none q hD)]; exact s4 b o q
      | none =>
        refine ⟨_, ?_, rfl, hlt, ?_, s3 _ _ hd, s4⟩
        · omega
        · rw [htk, List.filterMap_append]; simp [e]
    · obtain rfl : i = xs.length := by omega
      refine .inl ⟨hst H' hs, hQ H' ?_ hs⟩
      rw [hd, List.take_length]
theorem comp_list {K : PySem.W.Frag} {a : Addr} {σb : V → St} {tc : TT} {te : TE} {D : Addr} {Q : VK} {H : Hp} {xs : List V} (f : V → Option V) (h : SqL K H a xs) (hz : xs.length < sizeLine) (hD : H D = none)
    (step : ∀ x ∈ xs, ∀ H', Same H H' → ∀ R : Option V → Hp → Prop, (∀ H'', Same H' H'' → R (f x) H'') → tc (σb x) H' fun b H2 => if b = true then te (σb x) H2 fun y H3 => R (some y) H3 else R none H2)
    (hQ : ∀ H', H' D = some (.lst (xs.filterMap f)) → Same H H' → Q (.ref D) H') : CompW (Itl K a) σb tc te D Q H :=
  comp_fun f hz hD (fun i H' hi s => ⟨xs, xs[i], s.seq h, List.getElem?_eq_getElem hi⟩) (fun i H' x H'' hi s y => ⟨y.1, y.2 xs (s.seq h)⟩) (fun H' s => ⟨xs, s.seq h, Nat.le_refl _⟩) step hQ
/-- what a comprehension's names are -/
theorem has_of {names : List (Str × NameKind)} {cl : List (Str × Addr)} (h : ∀ p ∈ names, p.2 = .cell ∨ p.2 = .free → ∃ c, cl.lookup p.1 = some c) : ∀ y, (names.lookup y = some .cell ∨ names.lookup y = some .free) → ∃ c, cl.lookup y = some c := fun y q => by
  rcases q with q | q
  · exact h _ (PySem.mem_of_lookup q) (.inl rfl)
  · exact h _ (PySem.mem_of_lookup q) (.inr rfl)
end L2
namespace L2
open PySem PySem.Spec PyProof.Rows
/-- a comprehension by data: the items of xs bear ds; those that pass the test give what bears g -/
theorem comp_data {α β : Type} {J : It} {σb : V → St} {tc : TT} {te : TE} {D : Addr} {Q : VK} {H : Hp} {xs : List V} {ds : List α} (test : α → Bool) (g : α → β) (Rb : Hp → V → β → Prop)
    (hlen : xs.length = ds.length) (hz : xs.length < sizeLine) (hD : H D = none)
    (mono : ∀ H1 H2 v b, Same H1 H2 → Rb H1 v b → Rb H2 v b) (monoD : ∀ H1 ys zs v b, Same H H1 → H1 D = some (.lst ys) → Rb H1 v b → Rb (upd H1 D (.lst zs)) v b)
    (hgo : ∀ i H', i < xs.length → Same H H' → J.go i H') (hy : ∀ (i : Nat) H' x H'', i < xs.length → Same H H' → J.yld i H' x H'' → H'' = H' ∧ xs[i]? = some x) (hst : ∀ H', Same H H' → J.stop xs.length H')
    (step : ∀ (i : Nat) x d, xs[i]? = some x → ds[i]? = some d → ∀ H', Same H H' → (∃ ys, H' D = some (.lst ys)) → ∀ R : Option V → Hp → Prop, (test d = true → ∀ y H'', Same H' H'' → Rb H'' y (g d) → R (some y) H'') → (test d = false → ∀ H'', Same H' H'' → R none H'') →
      tc (σb x) H' fun b H2 => if b = true then te (σb x) H2 fun y H3 => R (some y) H3 else R none H2)
    (hQ : ∀ H' ys, H' D = some (.lst ys) → Paired (Rb H') ys ((ds.filter test).map g) → Same H H' → Q (.ref D) H') : CompW J σb tc te D Q H := by
  refine ⟨fun i m ys H' => m = xs.length - i ∧ i ≤ xs.length ∧ H' D = some (.lst ys) ∧ Paired (Rb H') ys (((ds.take i).filter test).map g) ∧ Same H H', ⟨xs.length, rfl, Nat.zero_le _, upd_same, .nil, fun b o e => ?_⟩, ?_⟩
  · rw [upd_ne (ne_of_none e hD)]; exact e
  · rintro i m ys H' ⟨rfl, hi, hd, hp, hs⟩
    refine ⟨hd, ?_⟩
    rcases Nat.lt_or_ge i xs.length with hlt | hge
    · refine .inr ⟨hgo i H' hlt hs, fun x H'' hyl => ?_⟩
      obtain ⟨rfl, hx⟩ := hy i H' x H'' hlt hs hyl
      obtain ⟨d, hdd⟩ : ∃ d, ds[i]? = some d := ⟨ds[i]'(by omega), List.getElem?_eq_getElem (by omega)⟩
      have htk : ds.take (i + 1) = ds.take i ++ [d] := by rw [List.take_add_one, hdd]; rfl
      have hl2 : ys.length < sizeLine := by
        rw [PySem.Paired.length hp, List.length_map]
        have := List.length_filter_le test (ds.take i)
        rw [List.length_take] at this
        omega
      refine step i x d hx hdd _ hs ⟨ys, hd⟩ (fun o H3 => match o with
        | some y => H3 D = some (.lst ys) ∧ ys.length < sizeLine ∧ ∃ m', m' < xs.length - i ∧ (m' = xs.length - (i + 1) ∧ i + 1 ≤ xs.length ∧ (upd H3 D (.lst (ys ++ [y]))) D = some (.lst (ys ++ [y])) ∧ Paired (Rb (upd H3 D (.lst (ys ++ [y])))) (ys ++ [y]) (((ds.take (i + 1)).filter test).map g) ∧ Same H (upd H3 D (.lst (ys ++ [y]))))
        | none => ∃ m', m' < xs.length - i ∧ (m' = xs.length - (i + 1) ∧ i + 1 ≤ xs.length ∧ H3 D = some (.lst ys) ∧ Paired (Rb H3) ys (((ds.take (i + 1)).filter test).map g) ∧ Same H H3)) (fun ht y H3 s3 hb => ?_) (fun ht H3 s3 => ?_)
      · have s4 : Same H H3 := hs.trans s3
        have hd3 := s3 _ _ hd
        refine ⟨hd3, hl2, _, ?_, rfl, hlt, upd_same, ?_, fun b o q => ?_⟩
        · omega
        · rw [htk, List.filter_append, List.map_append, List.filter_cons_of_pos ht]
          refine PySem.Paired.snoc (L2.Paired.mapP hp fun v b r => monoD _ _ _ _ _ s4 hd3 (mono _ _ _ _ s3 r)) (monoD _ _ _ _ _ s4 hd3 hb)
        · rw [upd_ne (ne_of_none q hD)]; exact s4 b o q
      · refine ⟨_, ?_, rfl, hlt, s3 _ _ hd, ?_, hs.trans s3⟩
        · omega
        · rw [htk, List.filter_append, List.filter_cons_of_neg (by rw [ht]; simp), List.filter_nil, List.append_nil]
          exact L2.Paired.mapP hp fun v b r => mono _ _ _ _ s3 r
    · obtain rfl : i = xs.length := by omega
      refine .inl ⟨hst H' hs, hQ H' ys hd ?_ hs⟩
      rw [hlen, List.take_length] at hp
      exact hp
end L2
namespace L2
open PySem PySem.Spec PyProof.Rows
/-! ### max(xs, key=len, default=d) -/
section
variable {prog : Program} {w : World} {A : Around} {E : Value → Shared → Prop} {s : Shared}
/-- what stands for the best so far -/
def bestObj (vs : List Value) (kf : Nat → Nat) : Option (Nat × Tok) → Array Value
  | none => #[]
  | some (i, t) => #[vs.getD i Value.none, .int (kf i) t]
def BestTo (kf : Nat → Nat) (i j : Nat) : Prop := i < j ∧ ∀ k, k < j → kf k ≤ kf i ∧ (k < i → kf k < kf i)
end
/-- lists of which the lengths are told -/
def LensAt (K : PySem.W.Frag) (H : Hp) (ys : List V) (kf : Nat → Nat) : Prop := ∀ (i : Nat) y, ys[i]? = some y → ∃ a zs, y = .ref a ∧ SqL K H a zs ∧ zs.length = kf i
def tMaxLen (K : PySem.W.Frag) (te td : TE) : TE := fun σ H Q => te σ H fun x H1 => td σ H1 fun d H2 => ∃ l ys kf, x = .ref l ∧ SqL K H2 l ys ∧ LensAt K H2 ys kf ∧ (ys = [] → Q d H2) ∧ ∀ (i : Nat) y, ys[i]? = some y → BestTo kf i ys.length → Q y H2
section
variable {X : Cx} {e d : Expr} {te td : TE} {p p2 kp kp2 pos : Pos}
end
end L2
namespace L2
open PySem PySem.Spec PyProof.Rows
/-! ### x in xs, by data -/
open Classical in
noncomputable def eqR (h : Heap) (d : PyData) (y : Value) : Bool := if q : ∃ e, (∃ as, Reads h y e as) ∧ e.canLay0 = true then PyData.eqv (Classical.choose q) d else false
theorem eqR_of {h : Heap} {d e : PyData} {y : Value} {as : List Addr} (r : Reads h y e as) (c : e.canLay0 = true) : eqR h d y = PyData.eqv e d := by
  have q : ∃ e, (∃ as, Reads h y e as) ∧ e.canLay0 = true := ⟨e, ⟨as, r⟩, c⟩
  unfold eqR
  rw [dif_pos q]
  obtain ⟨⟨bs, r2⟩, c2⟩ := Classical.choose_spec q
  rw [PySem.SeqAt.Reads.unique _ _ _ _ _ c r r2]
theorem RpAll.get {K : PySem.W.Frag} {H : Hp} : ∀ {xs : List V} {ds : List PyData} {i : Nat} {x : V}, RpAll K H xs ds → xs[i]? = some x → ∃ d, ds[i]? = some d ∧ Rp K H x d
  | _, _, _, _, .nil, e => by simp at e
  | _, _, 0, _, .cons h _, e => by
    obtain rfl := by simpa using e
    exact ⟨_, rfl, h⟩
  | _, _, i + 1, x, .cons _ r, e => by
    obtain ⟨d, h1, h2⟩ := RpAll.get (i := i) (x := x) r (by simpa using e)
    exact ⟨d, by simpa using h1, h2⟩
theorem canAll_mem : ∀ {ds : List PyData} {d : PyData}, PyData.canLayAll0 ds = true → d ∈ ds → d.canLay0 = true
  | e :: r, d, h, hm => by
    rw [PyData.canLayAll0, Bool.and_eq_true] at h
    rcases List.mem_cons.mp hm with rfl | hm
    · exact h.1
    · exact canAll_mem h.2 hm
theorem any_eqR {X : Cx} {pins : List (Addr × Obj)} {σ : St} {H : Hp} {s : Shared} (I : Inv X pins σ H s) (d : PyData) : ∀ {xs : List V} {ds : List PyData} {us : List Value}, RpAll X.K H xs ds → Vals xs us → PyData.canLayAll0 ds = true → us.any (eqR s.heap d) = ds.any fun e => PyData.eqv e d
  | _, _, _, .nil, r, _ => by cases r; rfl
  | _, _, _, .cons h hr, r, c => by
    cases r with
    | cons r1 r2 =>
      rw [PyData.canLayAll0, Bool.and_eq_true] at c
      obtain ⟨as, ra⟩ := h.reads I r1
      rw [List.any_cons, List.any_cons, eqR_of ra c.1, any_eqR I d hr r2 c.2]
def rInD (K : PySem.W.Frag) (neg : Bool) : R2 := fun x y H Q => ∃ a xs d ds, y = .ref a ∧ (SqL K H a xs ∨ SqT K H a xs) ∧ Rp K H x d ∧ RpAll K H xs ds ∧ d.canLay0 = true ∧ PyData.canLayAll0 ds = true ∧ d.depth ≤ 50 ∧
  Q (.bl (if neg then !(ds.any fun e => PyData.eqv e d) else ds.any fun e => PyData.eqv e d)) H
section
variable {X : Cx}
theorem in_pre (hu : X.A.units + 64 < cLine) {pins : List (Addr × Obj)} {σ : St} {H : Hp} {s : Shared} (I : Inv X pins σ H s) {xs : List V} {ds : List PyData} {us : List Value} {d : PyData} {v : Value} {bs : List Addr} (rx : Reads s.heap v d bs) (ra : RpAll X.K H xs ds) (rv : Vals xs us)
    (cd : d.canLay0 = true) (cs : PyData.canLayAll0 ds = true) (hd : d.depth ≤ 50) : ∀ y, y ∈ us.toArray → SeqAt.EqAt X.A.in1 s y v (eqR s.heap d y) := fun y hy => by
  obtain ⟨i, hi, e⟩ := List.getElem_of_mem (by simpa using hy : y ∈ us)
  obtain ⟨x, hx⟩ : ∃ x, xs[i]? = some x := ⟨xs[i]'(by rw [rv.length]; exact hi), List.getElem?_eq_getElem _⟩
  obtain ⟨u, hu', ru⟩ := rv.get hx
  rw [List.getElem?_eq_getElem hi, e] at hu'
  cases hu'
  obtain ⟨e', he', hr⟩ := ra.get hx
  obtain ⟨as, rr⟩ := hr.reads I ru
  have ce := canAll_mem cs (List.mem_of_getElem? he')
  rw [eqR_of rr ce]
  refine SeqAt.eqAt_reads _ _ _ _ _ _ _ _ rr rx ce cd ?_
  have := Nat.min_le_right e'.depth d.depth
  show X.A.units + 1 + min e'.depth d.depth < cLine
  omega
theorem op_notInD (hu : X.A.units + 64 < cLine) : OpR X (compareOp .NotIn) (rInD X.K true) := by
  intro pins s σ H x y v u Q I rx ry h
  obtain ⟨a, xs, d, ds, rfl, hs, rd, ra, cd, cs, hd, q⟩ := h
  obtain rfl : u = Value.ref a := ry
  obtain ⟨bs, rb⟩ := rd.reads I rx
  have fin : ∀ {its : List Value}, Vals xs its → EP X pins σ Q (.bool (!its.toArray.any (eqR s.heap d))) s := fun {its} rv => ⟨.bl _, H, I, rfl, by
    rw [List.any_toArray, any_eqR I d ra rv cs]; exact q⟩
  rcases hs with hs | hs
  · obtain ⟨its, rv, pl, _⟩ := I.list hs
    exact SeqAt.notIn_listAt (eqR s.heap d) pl.isList (in_pre hu I rb ra rv cd cs hd) (fin rv)
  · obtain ⟨its, rv, pl, _⟩ := I.tuple hs
    exact SeqAt.notIn_tupleAt (eqR s.heap d) (show s.heap.IsTuple a its.toArray from pl) (in_pre hu I rb ra rv cd cs hd) (fin rv)
end
end L2
namespace L2
open PySem PySem.SeqAt PyProof.Rows
open AutoSeq1 (wpAny_loadPart')
open MeetsSeq MeetsSeq2 MeetsSeq3
/-! ### `<` of tuples and of lists -/
def RcLtAt (A : Around) (s : Shared) (y x : Value) (b : Bool) : Prop :=
  ∀ (prog : Program) (w : World) (E : Value → Shared → Prop) (Q : Value → Shared → Prop), Q (.bool b) s → wpAny (model prog w) A (richCompare .Lt y x) Q E s
/-- what the places from some place on tell: by the first that differ, else the lengths -/
def lexR (e l : Nat → Bool) (fin : Bool) : List Nat → Bool
  | [] => fin
  | j :: r => if e j then lexR e l fin r else l j
end L2
namespace L2
open PySem PySem.SeqAt PyProof.Rows PySem.Calls
/-! ### any, of a list of bools -/
section
variable {X : Cx}
end
/-! ### sorted, of lists of pairs -/
def PairAt (h : Heap) (v : Value) (p : Int × Int) : Prop := ∃ a ob t1 t2 k, v = .ref a ∧ h.get? a = some ob ∧ ob.cls = .type "tuple" ∧ ob.data = .seq #[.int p.1 t1, .int p.2 t2] k
def lexL : List (Int × Int) → List (Int × Int) → Bool
  | [], [] => false
  | [], _ :: _ => true
  | _ :: _, [] => false
  | a :: as, b :: bs => if a = b then lexL as bs else lexI a b
theorem lexI_tr {a b c : Int × Int} : lexI b a = false → lexI c b = false → lexI c a = false := (lexI_ord fun n => if n = 0 then a else if n = 1 then b else c).tr 0 1 2
theorem lexI_eq {a b : Int × Int} (h1 : lexI a b = false) (h2 : lexI b a = false) : a = b := by
  unfold lexI at h1 h2
  split at h1 <;> split at h2 <;> simp only [decide_eq_false_iff_not] at h1 h2 <;> exact Prod.ext (by omega) (by omega)
def RwV (K : PySem.W.Frag) (H : Hp) (v : V) (r : List (Int × Int)) : Prop := ∃ a vs, v = .ref a ∧ SqL K H a vs ∧ Paired (PrV K H) vs r
section
variable {X : Cx} {pins : List (Addr × Obj)} {σ : St} {H : Hp} {s : Shared}
end
def rSortedP (K : PySem.W.Frag) : List V → Hp → VK → Prop := fun xs H Q => ∃ (p : Addr) (ys : List V) (ps : List (Int × Int)) (F : V → Int × Int → Prop), xs = [.ref p] ∧ (SqL K H p ys ∨ SqT K H p ys) ∧ Paired F ys ps ∧ (∀ v q, F v q → PrV K H v q) ∧ ys.length < 64 ∧
    ∀ (l : Addr) (zs : List V) (qs : List (Int × Int)), H l = none → Paired F zs qs → zs.Perm ys → qs.Perm ps → qs.Pairwise (fun a b => lexI b a = false) → Q (.ref l) (upd H l (.lst zs))
end L2
namespace L2
open PySem PySem.W PySem.Spec PySem.Calls PyProof.Rows PySem.Builtin.Getset_descriptor
/-! ### exceptions of own classes: __class__, isinstance -/
section
variable {prog : Program} {w : World} {A : Around} {E : Value → Shared → Prop} {s : Shared} {K : Frag} {x D : Addr} {ox : Obj}
theorem bexc_type : builtinKind "BaseException.__getattribute__" = some .slot := by decide +kernel
theorem bexc_split : splitId "BaseException.__getattribute__" = some ("BaseException", "__getattribute__") := by decide +kernel
theorem bexc_ga_plain : plainId "BaseException.__getattribute__" = true := by decide +kernel
theorem bexc_ga_bind (self : Value) : bindSpecial (.builtin "BaseException.__getattribute__") self = pure (.builtin "BaseException.__getattribute__", [self]) := by
  have hop : withoutEnding? "BaseException.__getattribute__" "#opaque" = none := by decide +kernel
  have hdat : withoutEnding? "BaseException.__getattribute__" "#data" = none := by decide +kernel
  simp only [bindSpecial, typeOf, builtinType, hop, hdat, bexc_type]; rfl
/-- what an own exception class must have for a look at an instance's __class__ -/
structure ExcCls (K : Frag) (D : Addr) : Prop where
  cls : (clsIn K D).isSome = true
  ga : findIn K (.ref D) "__getattribute__" = some (some (.builtin "BaseException.__getattribute__"))
  gt : findIn K (.ref D) "__getattr__" = some none
  cl : findIn K (.ref D) "__class__" = some (some (.builtin "object.__class__"))
  sp : specialIn K (.builtin "object.__class__") "__get__" = some (some (.builtin "getset_descriptor.__get__"))
  tk : takesIn K (.builtin "object.__class__") = some true
  mb : mroIn K D (.type "BaseException") = some true
  mo : mroIn K D (.type "object") = some true
def ExcAt (x C : Addr) (h : Heap) : Prop := ∃ o, h.get? x = some o ∧ o.cls = .ref C
theorem ExcAt.type {M : Model} {h : Heap} (I : ExcAt x D h) : Looks M h (typeOf (.ref x)) (.ref D) := by
  obtain ⟨o, h1, h2⟩ := I
  exact h2 ▸ (Looks.ld h1).andThen .now
theorem class_getE {R : Result → Shared → Prop} {tp : Value} (X : K.In s.heap) (I : ExcAt x D s.heap) (hm : mroIn K D (.type "object") = some true)
    (h : R (.ok (.ret (.ref D))) s) : codeAny (model prog w) A (.call (.builtin "getset_descriptor.__get__") ⟨[.builtin "object.__class__", .ref x, tp], []⟩) R s := by
  obtain ⟨hh, g, dr, t, os⟩ := s
  have L0 := I.type (M := model prog w)
  have L1 := looks_mroIn (M := model prog w) X hm
  refine codeAny_call_builtin KF.slot_gs.plain KF.entry_gs (KF.slot_gs.check _ _ _ _ _ _ _ _ KF.type_class (KF.args_gs _ _ _) ?_)
  unfold Builtin.«getset_descriptor.__get__» descrGet
  rw [dga_obj]
  refine wpAny_bind (wpAny_pure ?_)
  unfold descrGetter descrCheckInstance descrNameAndClass isInstance
  simp only [KF.owner_class]
  repeat lk
  refine ⟨Code.quiet_builtin _ (by decide +kernel), codeAny_builtin KF.entry_class ?_⟩
  unfold Builtin.«object.__class__» shownTypeOf
  repeat lk
  exact h
theorem exc_class {Q : Option Value → Shared → Prop} (X : K.In s.heap) (I : ExcAt x D s.heap) (C : ExcCls K D) (h : Q (some (.ref D)) { s with toks := s.toks + 1 }) : wpAny (model prog w) A (getAttr? (.ref x) "__class__") Q E s := by
  obtain ⟨hh, g, d, t, os⟩ := s
  have L0 := I.type (M := model prog w)
  have L1 := looks_findIn (M := model prog w) X C.ga
  have L2 := looks_findIn (M := model prog w) X C.gt
  have L3 := looks_mroIn (M := model prog w) X C.mb
  have L4 : Looks (model prog w) hh (Builtin.ObjectAttr.find (.ref x) (.ref D) "__class__") (.bind (.builtin "getset_descriptor.__get__") (.builtin "object.__class__")) := by
    have L5 := looks_findIn (M := model prog w) X C.cl
    have L6 : Looks (model prog w) hh (Builtin.ObjectAttr.getOf (some (.builtin "object.__class__"))) (some (.builtin "getset_descriptor.__get__")) := looks_specialIn X C.sp
    have L7 := looks_takesIn (M := model prog w) X C.tk
    refine L5.andThen (L6.andThen ?_)
    exact (show Looks (model prog w) hh (Builtin.ObjectAttr.dataDescriptor? (some (.builtin "object.__class__")) (some (.builtin "getset_descriptor.__get__"))) (some (.builtin "getset_descriptor.__get__", .builtin "object.__class__")) from L7.andThen .now).andThen (Looks.tag .now)
  have hx2 : (onTheHeap (Value.ref D) && Value.builtin "BaseException.__getattribute__" == Value.builtin "object.__getattribute__") = false := by
    have : (Value.builtin "BaseException.__getattribute__" == Value.builtin "object.__getattribute__") = false := by decide +kernel
    rw [this]; rfl
  unfold getAttr? getAttrBy? getAttrBy
  refine wpAny_bind (wpAny_mkText (wpAny_bind (wpAny_attempt (wpAny_holding (wpAny_bind (L0.at (wpAny_bind (L1.at ?_))))))))
  dsimp only
  rw [hx2, if_neg (by decide)]
  unfold getAttrByItsOwn hookBefore
  refine wpAny_bind ?_
  rw [if_pos (show onTheHeap (Value.ref D) = true from rfl)]
  refine L2.at (wpAny_bind (wpAny_attempt (wpAny_holding ?_)))
  unfold callGetattribute boundAndCalled
  rw [if_neg (by decide)]
  have f3 := bexc_ga_bind (.ref x)
  rw [f3]
  refine wpAny_bind (wpAny_pure ?_)
  refine wpAny_call (codeAny_call_builtin bexc_ga_plain F.entry_bexc_ga ?_)
  simp only [checkBuiltinCall, bexc_type, bexc_split]
  refine wpAny_bind ?_
  unfold isInstance
  refine wpAny_bind (L0.at (L3.at ?_))
  dsimp only
  rw [if_neg (by decide)]
  have ok := F.args_bexc_ga (.ref x) (.str "__class__" t)
  have fin : wpAny (model prog w) A.in1 (Builtin.«object.__getattribute__» ⟨[.ref x, .str "__class__" t], []⟩) (fun fin s' => match fin with
      | .done (.ret v) => v = .ref D ∧ s' = ⟨hh, g, d, t + 1, os⟩
      | _ => False) (fun _ _ => False) ⟨hh, g, d, t + 1, os⟩ := by
    unfold Builtin.«object.__getattribute__»
    repeat (first | with_reducible refine wpAny_call (class_getE (s := ⟨hh, g, d, t + 1, os⟩) X I C.mo ?_) | lk)
    exact ⟨rfl, rfl⟩
  have end_ : ∀ {Q' : Fin → Shared → Prop} {E' : Value → Shared → Prop}, Q' (.done (.ret (.ref D))) ⟨hh, g, d, t + 1, os⟩ → wpAny (model prog w) A.in1 (Builtin.«object.__getattribute__» ⟨[.ref x, .str "__class__" t], []⟩) Q' E' ⟨hh, g, d, t + 1, os⟩ := fun {Q' E'} q => wpAny_mono fin (fun f s' z => by
    rcases f with (_ | _ | _ | _) | _ <;> first | exact z.elim | skip
    obtain ⟨rfl, rfl⟩ := z
    exact q) fun _ _ z => z.elim
  cases hsig : Manifest.signature? "BaseException.__getattribute__" with
  | none => exact wpAny_pure (end_ (handed_on rfl (wpAny_pure h)))
  | some sig =>
    simp only [argsOk, hsig] at ok
    have h2 : Bind.checkArgs "BaseException.__getattribute__" sig ⟨[.ref x, .str "__class__" t], []⟩ = pure () := ok
    show wpAny _ _ (Bind.checkArgs "BaseException.__getattribute__" sig ⟨[.ref x, .str "__class__" t], []⟩) _ _ _
    rw [h2]
    exact wpAny_pure (end_ (handed_on rfl (wpAny_pure h)))
theorem kitx_exc (C : ExcCls K D) : KitX K (.ref x) (.ref D) (ExcAt x D) where
  ty := fun _ _ _ I => I.type
  it := fun _ _ X _ => by
    obtain ⟨cdD, hcD⟩ := Option.isSome_iff_exists.mp C.cls
    unfold clsIn at hcD
    split at hcD
    · rename_i c' d' cd' sl' ho
      intro A' Q' E' s' k q
      unfold isType loadHead
      exact wpAny_bind (wpAny_loadPart (k _ _ (X _ _ ho)) (wpAny_pure q))
    · cases hcD
  ne := fun h tp dd its n sl X htp => by
    obtain ⟨cdD, hcD⟩ := Option.isSome_iff_exists.mp C.cls
    refine Bool.eq_false_iff.mpr fun q => ?_
    have e : D = tp := Value.ref.inj (beq_iff_eq.mp q)
    subst e
    unfold clsIn at hcD
    split at hcD
    · rename_i c' d' cd' sl' ho
      have z := (X _ _ ho).symm.trans htp
      cases z
    · cases hcD
  ca := fun X I k => exc_class X I C k
end
end L2
namespace L2
open PySem PySem.W PySem.Spec PyProof.Rows
/-! ### isinstance of an exception in hand -/
theorem ExcAt.stay {x C : Addr} {h1 h2 : Heap} (p : ExcAt x C h1) (k : ∀ o, h1.get? x = some o → h2.get? x = some o) : ExcAt x C h2 := by
  obtain ⟨ox, a, b⟩ := p
  exact ⟨ox, k _ a, b⟩
section
variable {X : Cx}
def rIsiE (K : Frag) : List V → Hp → VK → Prop := fun xs H Q => ∃ x C c b, xs = [.ref x, c] ∧ H x = some (.ext (ExcAt x C)) ∧ ExcCls K C ∧ ((∃ D, c = .ref D ∧ kitOne K (.ref C) (.ref D) = some b) ∨ (∃ T, c = .ty T ∧ kitOne K (.ref C) (.type T) = some b)) ∧ Q (.bl b) H
theorem call_isiE : CallR X (.builtin "isinstance") (rIsiE X.K) := by
  intro pins s σ H xs us Q I r h
  obtain ⟨x, C, c, b, rfl, hx, ec, hc, q⟩ := h
  obtain ⟨u, v, rfl, ru, rv⟩ := r.two
  obtain rfl : u = Value.ref x := ru
  have p : ExcAt x C s.heap := (show ObjOk X.prog X.w H s.heap x (.ext (ExcAt x C)) from I.hok x _ hx).1
  rcases hc with ⟨D, rfl, e⟩ | ⟨T, rfl, e⟩
  · obtain rfl : v = Value.ref D := rv
    exact kia_one (kitx_exc ec) I.kIn p e (fun z => nomatch z) fun tk => ⟨.bl b, H, I.tok tk, rfl, q⟩
  · obtain rfl : v = Value.type T := rv
    exact kia_one (kitx_exc ec) I.kIn p e (fun z => nomatch z) fun tk => ⟨.bl b, H, I.tok tk, rfl, q⟩
end
/-! ### an exception in flight -/
section
variable {X : Cx} {pins : List (Addr × Obj)} {σ : List (Option V)} {H H' : Hp} {s : Shared} {h' : Heap}
theorem Inv.step2 {g' : Array GenState} {t' : Nat} {d' : Drawn} {ch : List Addr} (I : Inv X pins σ H s)
    (hch : ∀ b ∈ ch, (b ∈ X.ex ∨ X.s₀.heap.get? b = none) ∧ b ≠ X.env.locals ∧ (∀ x c, X.env.cells.lookup x = some c → c ≠ b) ∧ ∀ p ∈ X.pn ++ pins, p.1 ≠ b)
    (keep : ∀ b o, b ≠ X.env.locals → b ∉ X.fs → b ∉ ch → s.heap.get? b = some o → H b = none → h'.get? b = some o)
    (slot : ∀ b o, b ≠ X.env.locals → b ∈ X.fs → b ∉ ch → s.heap.get? b = some o → H b = none → ∃ sl, h'.get? b = some { o with slots := sl }) (free : ∀ b o, b ∉ ch → s.heap.get? b = some o → H b = none → H' b = none)
    (there : ∀ b o, b ∉ ch → s.heap.get? b = some o → ∃ o', h'.get? b = some o')
    (tups : ∀ b xs, H b = some (.tup xs) → H' b = some (.tup xs)) (frzs : ∀ b o u, H b = some (.frz o u) → H' b = some (.frz o u)) (tbls : ∀ b ps, H b = some (.tbl ps) → ∃ more, H' b = some (.tbl (ps ++ more)))
    (ns : ∀ m, s.heap.Ns X.env.locals m → h'.Ns X.env.locals m) (hok : HOk X.prog X.w H' h') (hg : AllBare g') :
    Inv X pins σ H' { s with heap := h', gens := g', drawn := d', toks := t' } := by
  have neL : ∀ b o, X.s₀.heap.get? b = some o → b ≠ X.env.locals := fun b o e => Nat.ne_of_lt (Nat.lt_of_lt_of_le (Heap.lt_size e) I.ok.above)
  have neC : ∀ b o, X.s₀.heap.get? b = some o → b ∉ X.ex → b ∉ ch := fun b o e hx hb => by
    rcases (hch b hb).1 with z | z
    · exact hx z
    · rw [z] at e; cases e
  have cellK : ∀ x c, X.env.cells.lookup x = some c → ∀ v, s.heap.IsCell c v → h'.IsCell c v := fun x c e v ⟨o, ho, hd⟩ => by
    have nch : c ∉ ch := fun z => (hch c z).2.2.1 x c e rfl
    by_cases hc : c ∈ X.fs
    · obtain ⟨sl, q⟩ := slot c o (I.cne x c e) hc nch ho (I.freeC x c e)
      exact ⟨_, q, hd⟩
    · exact ⟨o, keep c o (I.cne x c e) hc nch ho (I.freeC x c e), hd⟩
  refine ⟨I.ok, I.os, hg, ⟨fun b o e n hb hx => ?_, fun b o e n hb hx => ?_, fun b o e n hx => ?_, fun b o e hx => ?_, fun b xs e => tups b xs (I.base.tups b xs e), fun b o xs e => frzs b o xs (I.base.frzs b o xs e), fun b ps e => ?_⟩, ?_, fun x c e => ?_, ?_, fun x c e => ?_, fun p hp => ?_, hok, I.len⟩
  · exact keep b o (neL b o e) hb (neC b o e hx) (I.base.keep b o e n hb hx) (I.base.free b o e n hx)
  · obtain ⟨sl, e1⟩ := I.base.slot b o e n hb hx
    obtain ⟨sl', e2⟩ := slot b _ (neL b o e) hb (neC b o e hx) e1 (I.base.free b o e n hx)
    exact ⟨sl', e2⟩
  · obtain ⟨o', e1⟩ := I.base.there b o e hx
    exact free b o' (neC b o e hx) e1 (I.base.free b o e n hx)
  · obtain ⟨o', e1⟩ := I.base.there b o e hx
    exact there b o' (neC b o e hx) e1
  · obtain ⟨m1, e1⟩ := I.base.tbls b ps e
    obtain ⟨m2, e2⟩ := tbls b _ e1
    exact ⟨m1 ++ m2, by rw [e2, Array.append_assoc]⟩
  · obtain ⟨m, hn, hl⟩ := I.loc
    refine ⟨m, ns m hn, fun i x v e1 e2 e3 => ?_⟩
    obtain ⟨u, r, l⟩ := hl i x v e1 e2 e3
    refine ⟨u, r, ?_⟩
    rcases l with l | ⟨k, c, e, z⟩
    · exact .inl l
    · exact .inr ⟨k, c, e, cellK x c e _ z⟩
  · obtain ⟨v, z⟩ := I.cell x c e
    exact ⟨v, cellK x c e v z⟩
  · obtain ⟨m, ⟨o, _, _, ho, _⟩, _⟩ := I.loc
    exact free _ o (fun z => (hch _ z).2.1 rfl) ho I.free
  · obtain ⟨v, o, ho, hd⟩ := I.cell x c e
    exact free c o (fun z => (hch c z).2.2.1 x c e rfl) ho (I.freeC x c e)
  · obtain ⟨e, n, ne, nf, d⟩ := I.pin p hp
    have nch : p.1 ∉ ch := fun z => (hch p.1 z).2.2.2 p hp rfl
    exact ⟨keep p.1 p.2 ne nf nch e n, free p.1 p.2 nch e n, ne, nf, d⟩

theorem ObjOk.there {P : Program} {w : World} {H : Hp} {h : Heap} {a : Addr} {o : HO} (x : ObjOk P w H h a o) : ∃ ob, h.get? a = some ob := by
  cases o with
  | lst xs => obtain ⟨_, _, _, _, e⟩ := x; exact ⟨_, e⟩
  | tup xs => obtain ⟨_, _, _, o, e, _⟩ := x; exact ⟨_, e⟩
  | dK kvs => obtain ⟨_, _, _, _, o, _, _, e, _⟩ := x; exact ⟨_, e⟩
  | dT kvs => obtain ⟨_, _, _, _, o, _, _, e, _⟩ := x; exact ⟨_, e⟩
  | set S n => obtain ⟨o, _, _, _, e, _⟩ := x; exact ⟨_, e⟩
  | ins C dx fs => obtain ⟨_, _, _, e, _⟩ := x; exact ⟨_, e⟩
  | own y => obtain ⟨_, e⟩ := x; exact ⟨_, e⟩
  | xd fs => obtain ⟨_, ⟨_, _, _, e, _⟩, _⟩ := x; exact ⟨_, e⟩
  | rng lo hi => obtain ⟨_, _, _, e⟩ := x; exact ⟨_, e⟩
  | frz ob u => obtain ⟨e, _⟩ := x; exact ⟨_, e⟩
  | tbl ps => exact ⟨_, (show h.get? a = some _ from x)⟩
  | met f y => exact ⟨_, (show h.get? a = some _ from x)⟩
  | ext φ => obtain ⟨_, e, _⟩ := x; exact e
theorem HOk.none {P : Program} {w : World} {H : Hp} {h : Heap} {a : Addr} (x : HOk P w H h) (e : h.get? a = none) : H a = none := by
  cases q : H a with
  | none => rfl
  | some o => obtain ⟨ob, z⟩ := (x a o q).there; rw [e] at z; cases z
/-- behind a step that changed the untracked records at ch, and slots of the frames that run -/
theorem Inv.left {ch : List Addr} (I : Inv X pins σ H s) (hch : ∀ b ∈ ch, X.s₀.heap.get? b = none ∧ H b = none ∧ b ≠ X.env.locals ∧ (∀ x c, X.env.cells.lookup x = some c → c ≠ b) ∧ ∀ p ∈ X.pn ++ pins, p.1 ≠ b)
    (stays : (hideAll s.heap (ch ++ frs X.stack)).StaysIn h') (ups : s.heap.UpToSlots h') : Inv X pins σ H { s with heap := h' } := by
  have keep : ∀ b o, b ∉ ch → b ∉ frs X.stack → s.heap.get? b = some o → h'.get? b = some o := fun b o h1 h2 e => stays b o (hideAll_get _ e fun z => (List.mem_append.mp z).elim h1 h2)
  have nst : ∀ b, b ≠ X.env.locals → b ∉ X.fs → b ∉ frs X.stack := fun b h1 h2 z => (List.mem_cons.mp (I.stkSub b z)).elim h1 h2
  have frame : ∀ b o, b ∈ frs X.stack → s.heap.get? b = some o → ∃ sl, h'.get? b = some { o with slots := sl } := fun b o hb e => by
    obtain ⟨_, o', ho', hnf⟩ := I.stack.mem hb
    rw [e] at ho'
    cases ho'
    exact ups b o e hnf
  refine I.step2 (g' := s.gens) (t' := s.toks) (d' := s.drawn) (ch := ch) (fun b hb => ⟨.inr (hch b hb).1, (hch b hb).2.2⟩) (fun b o h1 h2 h3 e _ => keep b o h3 (nst b h1 h2) e) (fun b o h1 h2 h3 e _ => ?_) (fun b o _ _ n => n) (fun b o h3 e => ?_) (fun _ _ e => e) (fun _ _ _ e => e) (fun b ps e => ⟨#[], by rw [e]; simp⟩) (fun m hm => ups.ns hm) (fun b u e => ?_) I.bare
  · obtain ⟨_, o', ho', hnf⟩ := I.funs.mem h2
    rw [e] at ho'
    cases ho'
    exact ups b o e hnf
  · by_cases hb : b ∈ frs X.stack
    · obtain ⟨sl, z⟩ := frame b o hb e
      exact ⟨_, z⟩
    · exact ⟨o, keep b o h3 hb e⟩
  · refine (I.hok b u e).stay (fun c v hc q => ?_) (fun _ q => q) fun _ _ q => q
    have hcn : ∃ z, H c = some z := by
      rcases hc with rfl | hc
      · exact ⟨_, e⟩
      · exact ⟨_, hc⟩
    obtain ⟨z, hz⟩ := hcn
    refine keep c v (fun m => ?_) (fun m => ?_) q
    · rw [(hch c m).2.1] at hz; cases hz
    · rw [I.stkFree c m] at hz; cases hz
/-- an exception that flies, marked fl: it and its traceback's head are new, and nothing tracks them; o = none: it has no context -/
def FliesAt (H : Hp) (h₀ h : Heap) (x : Addr) (cls fl : Value) (o : Option Addr) : Prop := H x = none ∧ h₀.get? x = none ∧ ∃ oe vs T oT ts, h.get? x = some oe ∧ oe.cls = cls ∧ oe.data = .fields vs ∧ vs[1]? = some (.ref T) ∧ (o = none → vs[2]? = some .none) ∧ H T = none ∧ h₀.get? T = none ∧ T ≠ x ∧
  h.get? T = some oT ∧ oT.data = .fields ts ∧ ts[3]? = some fl
abbrev Flies (H : Hp) (h₀ h : Heap) (x : Addr) (cls : Value) (o : Option Addr) : Prop := FliesAt H h₀ h x cls .none o
/-- a new one -/
def FreshAt (H : Hp) (h₀ h : Heap) (x : Addr) (cls : Value) (o : Option Addr) : Prop := H x = none ∧ h₀.get? x = none ∧ ∃ oe vs, h.get? x = some oe ∧ oe.cls = cls ∧ oe.data = .fields vs ∧ vs[1]? = some .none ∧ (o = none → vs[2]? = some .none)
end
end L2
namespace L2
open PySem PySem.W PySem.Spec PyProof.Rows
section
variable {X : Cx} {pins : List (Addr × Obj)} {σ : List (Option V)} {H : Hp} {s : Shared} {x T b : Addr} {cls : Value} {o : Option Addr}
/-- what is new stands apart from the frame, the cells, the pins -/
theorem Inv.gone (I : Inv X pins σ H s) (hex : X.ex = []) (e : s.heap.get? b = none) : X.s₀.heap.get? b = none ∧ H b = none ∧ b ≠ X.env.locals ∧ (∀ x c, X.env.cells.lookup x = some c → c ≠ b) ∧ ∀ p ∈ X.pn ++ pins, p.1 ≠ b := by
  refine ⟨?_, I.hok.none e, fun z => ?_, fun x c hc z => ?_, fun p hp z => ?_⟩
  · cases q : X.s₀.heap.get? b with
    | none => rfl
    | some o => obtain ⟨o', z⟩ := I.base.there b o q (by rw [hex]; simp); rw [e] at z; cases z
  · obtain ⟨m, ⟨o, _, _, ho, _⟩, _⟩ := I.loc
    rw [← z, e] at ho; cases ho
  · obtain ⟨v, o, ho, _⟩ := I.cell x c hc
    rw [z, e] at ho; cases ho
  · have := (I.pin p hp).1
    rw [z, e] at this; cases this
theorem frs_mem {l : List Env} {env : Env} {a : Addr} (h : env ∈ l) (e : env.frame = some a) : a ∈ frs l := List.mem_filterMap.mpr ⟨env, h, e⟩
def Held (X : Cx) (pins : List (Addr × Obj)) (h₀ : Heap) : Prop := ∀ b, h₀.get? b = none → X.s₀.heap.get? b = none ∧ b ≠ X.env.locals ∧ (∀ x c, X.env.cells.lookup x = some c → c ≠ b) ∧ ∀ p ∈ X.pn ++ pins, p.1 ≠ b
theorem Inv.held (I : Inv X pins σ H s) (hex : X.ex = []) : Held X pins s.heap := fun b hb => ⟨(I.gone hex hb).1, (I.gone hex hb).2.2⟩
/-- a new entry of a traceback, with all that lies on the heap behind it -/
theorem entry2 {M : Model} {A : Around} {E : Value → Shared → Prop} {base : Heap} {env : Env} {outer : List Env} {L e : Addr} {oe : Obj} {vs : Array Value} {head : Value} {hadNext : Bool} {Q : Unit → Shared → Prop}
    (hfr : A.frames = some (env :: outer)) (hl : s.heap.FunFrames base (env :: outer)) (hf : env.frame = some L) (he : s.heap.get? e = some oe) (hd : oe.data = .fields vs) (hsz : 1 < vs.size)
    (h : ∀ h' T oT ts, (∀ b ob, b ≠ e → s.heap.get? b = some ob → ∃ sl, h'.get? b = some { ob with slots := sl }) → (∀ b ob, b ≠ e → b ∉ (env :: outer).filterMap (·.frame) → s.heap.get? b = some ob → h'.get? b = some ob) →
      s.heap.get? T = none → T ≠ e → h'.get? e = some (oe.mapFields (·.setIfInBounds 1 (.ref T))) → h'.get? T = some oT → oT.data = .fields ts → ts[3]? = some (rawInt L) → Q () { s with heap := h' }) :
    wpAny M A (do let a ← frameOf env; let pl ← entryPlaceOf L hadNext; let b ← EntryCells.newEntry head a .none (rawInt L) .none pl; setField (.ref e) 1 b) Q E s := by
  have hene : e ∉ (env :: outer).filterMap (·.frame) := fun hm => by
    obtain ⟨_, o, ho, hnf⟩ := hl.mem hm
    rw [he] at ho; injection ho with ho; subst ho; exact hnf vs hd
  refine wpAny_bind (wpAny_frameOf_fun hfr hl hf fun h1 hs => ?_)
  refine wpAny_bind (wpAny_entryPlaceOf fun pl hpl => ?_)
  unfold EntryCells.newEntry newFields
  refine wpAny_bind (wpAny_newObj_type ?_ (hpl.sizeOk5 _ _ _ _ _))
  have he1 : h1.get? e = some oe := (hs.2.1 e hene).trans he
  have fresh : s.heap.get? h1.objs.size = none := by
    cases q : s.heap.get? h1.objs.size with
    | none => rfl
    | some ob =>
      obtain ⟨sl, z⟩ := hs.2.2 _ ob q
      exact absurd (Heap.lt_size z) (Nat.lt_irrefl _)
  have hTe : h1.objs.size ≠ e := Nat.ne_of_gt (Heap.lt_size he1)
  have up : ∀ (ob : Obj) b o, h1.get? b = some o → (h1.push ob).get? b = some o := fun ob b o q => Heap.get?_push_of_some _ q
  refine wpAny_setField (up _ e oe he1) hd hsz ?_
  have hT3 := (Heap.get?_update_other (h1.push { cls := .type "traceback", dict := none, data := .fields ([head, .ref L, .none, rawInt L, .none] ++ (if pl.isEmpty then List.replicate 6 Value.none else pl)).toArray })
    (Obj.mapFields (·.setIfInBounds 1 (Value.ref h1.objs.size))) (Ne.symm hTe)).trans (Heap.get?_push_size h1 rfl)
  refine h _ h1.objs.size _ _ (fun b ob hb q => ?_) (fun b ob hb hn q => ?_) fresh hTe ?_ hT3 rfl ?_
  · obtain ⟨sl, z⟩ := hs.2.2 b ob q
    exact ⟨sl, (Heap.get?_update_other _ _ (Ne.symm hb)).trans (up _ b _ z)⟩
  · exact (Heap.get?_update_other _ _ (Ne.symm hb)).trans (up _ b _ ((hs.2.1 b hn).trans q))
  · exact Heap.get?_update_self _ (up _ e oe he1) (Obj.isFreed_of_fields (Obj.data_mapFields hd _))
  · first | (simp; done) | (rcases hpl with rfl | ⟨_, _, _, _, _, _, _, rfl⟩ <;> simp)
/-- the record's fields behind a new entry -/
theorem mapF {oe : Obj} {vs : Array Value} {T : Addr} (hd : oe.data = .fields vs) (hsz : 1 < vs.size) : ∃ vs', (oe.mapFields (·.setIfInBounds 1 (.ref T))).cls = oe.cls ∧ (oe.mapFields (·.setIfInBounds 1 (.ref T))).data = .fields vs' ∧ vs'[1]? = some (.ref T) ∧ vs'[2]? = vs[2]? :=
  ⟨_, Obj.cls_mapFields _ _, Obj.data_mapFields hd _, by simp [hsz], by rw [Array.getElem?_setIfInBounds_ne (by decide)]⟩
/-- the state behind steps that change only what lies in ch, and frames by their slots -/
theorem fly_left {h' h₀ : Heap} {ch : List Addr} (I : Inv X pins σ H s) (hold : Held X pins h₀) (hch : ∀ b ∈ ch, H b = none ∧ h₀.get? b = none ∧ ∀ ob, s.heap.get? b = some ob → ∃ vs, ob.data = .fields vs)
    (keep : ∀ b ob, b ∉ ch → s.heap.get? b = some ob → ∃ sl, h'.get? b = some { ob with slots := sl }) (stay : ∀ b ob, b ∉ ch → b ∉ frs X.stack → s.heap.get? b = some ob → h'.get? b = some ob) : Inv X pins σ H { s with heap := h' } ∧ s.heap.UpToSlots h' := by
  have ups : s.heap.UpToSlots h' := fun b ob e hn => keep b ob (fun m => by obtain ⟨vs, z⟩ := (hch b m).2.2 ob e; exact hn vs z) e
  refine ⟨I.left (ch := ch) (fun b hb => ⟨(hold b (hch b hb).2.1).1, (hch b hb).1, (hold b (hch b hb).2.1).2⟩) (fun b ob q => ?_) ups, ups⟩
  have q0 := of_hideAll _ q
  have qn : b ∉ ch ++ frs X.stack := fun m => by rw [hideAll_none _ m] at q; cases q
  exact stay b ob (fun m => qn (List.mem_append_left _ m)) (fun m => qn (List.mem_append_right _ m)) q0
theorem note_at {M : Model} {Q : Unit → Shared → Prop} {E : Value → Shared → Prop} {h₀ : Heap} {fl : Value} (I : Inv X pins σ H s) (hst : X.stack = X.env :: X.outer) (hfr : X.env.frame = some X.env.locals) (F : FliesAt H h₀ s.heap x cls fl o) (hold : Held X pins h₀) (hnew : ∀ b, s.heap.get? b = none → h₀.get? b = none)
    (k : ∀ h', Inv X pins σ H { s with heap := h' } → FliesAt H h₀ h' x cls (rawInt X.env.locals) o → (∀ b, h'.get? b = none → h₀.get? b = none) → s.heap.UpToSlots h' → Q () { s with heap := h' }) : wpAny M X.A (noteFrame (.ref x) X.env) Q E s := by
  obtain ⟨f1, f2, oe, vs, T, oT, ts, g1, g2, g3, g5, gc, g6, g7, g8, g9, g10, g11⟩ := id F
  unfold noteFrame
  simp only [hfr]
  refine wpAny_bind (wpAny_field g1 g3 g5 ?_)
  rw [if_pos (show (Value.ref T != Value.none) = true from by simp)]
  refine wpAny_bind (wpAny_field g9 g10 g11 ?_)
  by_cases c : (fl == rawInt X.env.locals) = true
  · rw [if_pos c]
    have e : fl = rawInt X.env.locals := by simpa using c
    exact wpAny_pure (k s.heap I (e ▸ F) hnew (.refl _))
  · rw [if_neg c]
    have hs3 := (Array.getElem?_eq_some_iff.mp g11).1
    have hs1 := (Array.getElem?_eq_some_iff.mp g5).1
    refine wpAny_bind (wpAny_setField g9 g10 hs3 ?_)
    have other : ∀ b, b ≠ T → (s.heap.update T (Obj.mapFields (·.setIfInBounds 3 Value.none))).get? b = s.heap.get? b := fun b hb => Heap.get?_update_other _ _ (Ne.symm hb)
    have hl : (s.heap.update T (Obj.mapFields (·.setIfInBounds 3 Value.none))).FunFrames (hideAll s.heap ([x, T] ++ frs X.stack)) (X.env :: X.outer) := by
      rw [← hst]
      refine (funFrames_hide I.stack fun env he a ha => List.mem_append_right _ (frs_mem he ha)).of_keeps fun b ob q hnf => ⟨ob, (other b fun z => ?_).trans q, rfl⟩
      rw [z, g9] at q; injection q with q; subst q; exact hnf ts g10
    have dom : ∀ b ob, s.heap.get? b = some ob → (s.heap.update T (Obj.mapFields (·.setIfInBounds 3 Value.none))).get? b ≠ none := fun b ob q => by
      by_cases z : b = T
      · rw [z, Heap.get?_update_self _ g9 (Obj.isFreed_of_fields (Obj.data_mapFields g10 _))]; simp
      · rw [other b z, q]; simp
    refine entry2 (s := { s with heap := s.heap.update T (Obj.mapFields (·.setIfInBounds 3 Value.none)) }) (by rw [I.ok.frames, hst]) hl hfr ((other x (Ne.symm g8)).trans g1) g3 hs1 fun h' T' oT' ts' keep stay t0 t1 t2 t3 t4 t5 => ?_
    have t0' : s.heap.get? T' = none := by
      cases q : s.heap.get? T' with
      | none => rfl
      | some ob => exact absurd t0 (dom _ _ q)
    have nm : ∀ b, b ∉ [x, T] → b ≠ x ∧ b ≠ T := fun b hb => ⟨fun z => hb (by rw [z]; simp), fun z => hb (by rw [z]; simp)⟩
    obtain ⟨J, ups⟩ := fly_left (h' := h') (h₀ := h₀) (ch := [x, T]) I hold (fun b hb => by
      simp only [List.mem_cons, List.not_mem_nil, or_false] at hb
      rcases hb with rfl | rfl
      · exact ⟨f1, f2, fun ob q => by rw [g1] at q; injection q with q; subst q; exact ⟨_, g3⟩⟩
      · exact ⟨g6, g7, fun ob q => by rw [g9] at q; injection q with q; subst q; exact ⟨_, g10⟩⟩)
      (fun b ob hb q => keep b ob (nm b hb).1 ((other b (nm b hb).2).trans q)) (fun b ob hb hn q => stay b ob (nm b hb).1 (by rw [← hst]; exact hn) ((other b (nm b hb).2).trans q))
    obtain ⟨vs', m1, m2, m3, m4⟩ := mapF (T := T') g3 hs1
    refine k h' J ⟨f1, f2, _, vs', T', oT', ts', t2, m1.trans g2, m2, m3, fun z => m4.trans (gc z), I.hok.none t0', hnew T' t0', t1, t3, t4, t5⟩ (fun b hb => ?_) ups
    cases q : s.heap.get? b with
    | none => exact hnew b q
    | some ob =>
      exfalso
      by_cases z : b = x
      · rw [z, t2] at hb; cases hb
      · cases q1 : (s.heap.update T (Obj.mapFields (·.setIfInBounds 3 Value.none))).get? b with
        | none => exact dom b ob q q1
        | some ob1 => obtain ⟨sl, y⟩ := keep b ob1 z q1; rw [hb] at y; cases y
theorem note_new {M : Model} {Q : Unit → Shared → Prop} {E : Value → Shared → Prop} {h₀ : Heap} (I : Inv X pins σ H s) (hst : X.stack = X.env :: X.outer) (hfr : X.env.frame = some X.env.locals) (F : FreshAt H h₀ s.heap x cls o) (hold : Held X pins h₀) (hnew : ∀ b, s.heap.get? b = none → h₀.get? b = none)
    (k : ∀ h', Inv X pins σ H { s with heap := h' } → FliesAt H h₀ h' x cls (rawInt X.env.locals) o → (∀ b, h'.get? b = none → h₀.get? b = none) → s.heap.UpToSlots h' → Q () { s with heap := h' }) {A : Around} (hA : A.frames = X.A.frames) : wpAny M A (noteFrame (.ref x) X.env) Q E s := by
  obtain ⟨f1, f2, oe, vs, g1, g2, g3, g5, gc⟩ := id F
  unfold noteFrame
  simp only [hfr]
  refine wpAny_bind (wpAny_field g1 g3 g5 ?_)
  rw [if_neg (show ¬ (Value.none != Value.none) = true from by simp)]
  have hs1 := (Array.getElem?_eq_some_iff.mp g5).1
  have hl : s.heap.FunFrames (hideAll s.heap ([x] ++ frs X.stack)) (X.env :: X.outer) := by
    rw [← hst]
    exact funFrames_hide I.stack fun env he a ha => List.mem_append_right _ (frs_mem he ha)
  refine entry2 (by rw [hA, I.ok.frames, hst]) hl hfr g1 g3 hs1 fun h' T' oT' ts' keep stay t0 t1 t2 t3 t4 t5 => ?_
  have nm : ∀ b, b ∉ [x] → b ≠ x := fun b hb z => hb (by rw [z]; simp)
  obtain ⟨J, ups⟩ := fly_left (h' := h') (h₀ := h₀) (ch := [x]) I hold (fun b hb => by
    rw [List.mem_singleton.mp hb]
    exact ⟨f1, f2, fun ob q => by rw [g1] at q; injection q with q; subst q; exact ⟨_, g3⟩⟩)
    (fun b ob hb q => keep b ob (nm b hb) q) (fun b ob hb hn q => stay b ob (nm b hb) (by rw [← hst]; exact hn) q)
  obtain ⟨vs', m1, m2, m3, m4⟩ := mapF (T := T') g3 hs1
  refine k h' J ⟨f1, f2, _, vs', T', oT', ts', t2, m1.trans g2, m2, m3, fun z => m4.trans (gc z), I.hok.none t0, hnew T' t0, t1, t3, t4, t5⟩ (fun b hb => ?_) ups
  cases q : s.heap.get? b with
  | none => exact hnew b q
  | some ob =>
    exfalso
    by_cases z : b = x
    · rw [z, t2] at hb; cases hb
    · obtain ⟨sl, y⟩ := keep b ob z q; rw [hb] at y; cases y
theorem flight_at {M : Model} {A : Around} {Q : Unit → Shared → Prop} {E : Value → Shared → Prop} {h₀ : Heap} {fl : Value} {fo : Option Addr} (I : Inv X pins σ H s) (F : FliesAt H h₀ s.heap x cls fl o) (hold : Held X pins h₀) (hnew : ∀ b, s.heap.get? b = none → h₀.get? b = none)
    (k : ∀ h', Inv X pins σ H { s with heap := h' } → FliesAt H h₀ h' x cls (fo.elim Value.none fun f => rawInt f) o → (∀ b, h'.get? b = none → h₀.get? b = none) → s.heap.UpToSlots h' → Q () { s with heap := h' }) : wpAny M A (setFlight (.ref x) fo) Q E s := by
  obtain ⟨f1, f2, oe, vs, T, oT, ts, g1, g2, g3, g5, gc, g6, g7, g8, g9, g10, g11⟩ := id F
  have hs3 := (Array.getElem?_eq_some_iff.mp g11).1
  unfold setFlight
  refine wpAny_bind (wpAny_field g1 g3 g5 ?_)
  rw [if_pos (show (Value.ref T != Value.none) = true from by simp)]
  refine wpAny_setField g9 g10 hs3 ?_
  have other : ∀ b, b ≠ T → (s.heap.update T (Obj.mapFields (·.setIfInBounds 3 (fo.elim Value.none fun f => rawInt f)))).get? b = s.heap.get? b := fun b hb => Heap.get?_update_other _ _ (Ne.symm hb)
  have self := Heap.get?_update_self (Obj.mapFields (·.setIfInBounds 3 (fo.elim Value.none fun f => rawInt f))) g9 (Obj.isFreed_of_fields (Obj.data_mapFields g10 _))
  have nm : ∀ b, b ∉ [T] → b ≠ T := fun b hb z => hb (by rw [z]; simp)
  obtain ⟨J, ups⟩ := fly_left (h' := s.heap.update T (Obj.mapFields (·.setIfInBounds 3 (fo.elim Value.none fun f => rawInt f)))) (h₀ := h₀) (ch := [T]) I hold (fun b hb => by
    rw [List.mem_singleton.mp hb]
    exact ⟨g6, g7, fun ob q => by rw [g9] at q; injection q with q; subst q; exact ⟨_, g10⟩⟩)
    (fun b ob hb q => ⟨ob.slots, (other b (nm b hb)).trans q⟩) (fun b ob hb _ q => (other b (nm b hb)).trans q)
  refine k _ J ⟨f1, f2, oe, vs, T, _, _, (other x (Ne.symm g8)).trans g1, g2, g3, g5, gc, g6, g7, g8, self, Obj.data_mapFields g10 _, by simp [hs3]⟩ (fun b hb => ?_) ups
  by_cases z : b = T
  · rw [z, self] at hb; cases hb
  · rw [other b z] at hb; exact hnew b hb
theorem leave_at {M : Model} {Q : Unit → Shared → Prop} {E : Value → Shared → Prop} {h₀ : Heap} {fl : Value} (I : Inv X pins σ H s) (hst : X.stack = X.env :: X.outer) (hfr : X.env.frame = some X.env.locals) (F : FliesAt H h₀ s.heap x cls fl o) (hold : Held X pins h₀) (hnew : ∀ b, s.heap.get? b = none → h₀.get? b = none)
    (k : ∀ h', Inv X pins σ H { s with heap := h' } → Flies H h₀ h' x cls o → Q () { s with heap := h' }) : wpAny M X.A (leaving X.env (.ref x)) Q E s := by
  unfold leaving
  exact wpAny_bind (note_at I hst hfr F hold hnew fun h' I' F' n' _ => flight_at (fo := none) I' F' hold n' fun h'' I'' F'' _ _ => k h'' I'' F'')
theorem leave_new {M : Model} {Q : Unit → Shared → Prop} {E : Value → Shared → Prop} {h₀ : Heap} (I : Inv X pins σ H s) (hst : X.stack = X.env :: X.outer) (hfr : X.env.frame = some X.env.locals) (F : FreshAt H h₀ s.heap x cls o) (hold : Held X pins h₀) (hnew : ∀ b, s.heap.get? b = none → h₀.get? b = none)
    (k : ∀ h', Inv X pins σ H { s with heap := h' } → Flies H h₀ h' x cls o → Q () { s with heap := h' }) : wpAny M X.A (leaving X.env (.ref x)) Q E s := by
  unfold leaving
  exact wpAny_bind (note_new I hst hfr F hold hnew (fun h' I' F' n' _ => flight_at (fo := none) I' F' hold n' fun h'' I'' F'' _ _ => k h'' I'' F'') rfl)
end
/-! ### how an exception lies behind a call -/
def CX1 (P : Program) (w : World) : CXT := fun outer H s E e s' => ∃ x cls o H', e = .ref x ∧ s'.os = s.os ∧ AllBare s'.gens ∧ Un (frs outer) [] H H' s.heap s'.heap ∧ HOk P w H' s'.heap ∧ Flies H' s.heap s'.heap x cls o ∧ E cls o H'
section
variable {P : Program} {w : World} {K : Frag} {mg : Str → Option Value} {base : Heap} {N : List Str} {qual : Str} {scope : Scope} {f : Addr} {cdv : Value} {A : Around} {outer : List Env} {s₀ : Shared} {H₀ : Hp} {E : XK} {o : Option Addr}
theorem FliesAt.since {H : Hp} {h₀ h₁ h : Heap} {x : Addr} {cls fl : Value} (F : FliesAt H h₁ h x cls fl o) (k : ∀ b, h₁.get? b = none → h₀.get? b = none) : FliesAt H h₀ h x cls fl o := by
  obtain ⟨f1, f2, oe, vs, T, oT, ts, g1, g2, g3, g5, gc, g6, g7, g⟩ := F
  exact ⟨f1, k _ f2, oe, vs, T, oT, ts, g1, g2, g3, g5, gc, g6, k _ g7, g⟩
/-- behind a call that raised -/
theorem Inv.afterX {X : Cx} {pins : List (Addr × Obj)} {σ : St} {H : Hp} {s s' : Shared} {E : XK} {e : Value} (I : Inv X pins σ H s) (h : CX1 X.prog X.w X.stack H s E e s') : ∃ x cls o H', e = .ref x ∧ Inv X pins σ H' s' ∧ Flies H' s.heap s'.heap x cls o ∧ (∀ b, s'.heap.get? b = none → s.heap.get? b = none) ∧ E cls o H' := by
  obtain ⟨x, cls, o, H', rfl, ho, hg, u, hok, fl, q⟩ := h
  refine ⟨x, cls, o, H', rfl, I.call' (ch := []) ho u hok hg (fun b z => absurd z (by simp)), fl, fun b hb => ?_, q⟩
  cases z : s.heap.get? b with
  | none => rfl
  | some o => obtain ⟨o', z'⟩ := u.there b o z (by simp); rw [hb] at z'; cases z'
abbrev cx1 (P : Program) (w : World) (K : Frag) (mg : Str → Option Value) (base : Heap) (N : List Str) (qual : Str) (scope : Scope) (f : Addr) (cd : Value) (A : Around) (outer : List Env) (s : Shared) (H : Hp) (E : XK) : Cx := cxOf (CX1 P w) P w K mg base N qual scope f cd A outer s H E
/-- an exception that flies here leaves -/
def XOut (X : Cx) (E : XK) : Prop := ∀ (pins : List (Addr × Obj)) (σ : St) (H : Hp) (s : Shared) (x : Addr) (cls fl : Value) (o : Option Addr) (h₀ : Heap), Inv X pins σ H s → FliesAt H h₀ s.heap x cls fl o → Held X pins h₀ → (∀ b, s.heap.get? b = none → h₀.get? b = none) → E cls o H → X.xe (.ref x) s
theorem xout1 : XOut (cx1 P w K mg base N qual scope f cdv A outer s₀ H₀ E) E := by
  intro pins σ H s x cls fl o h₀ I F hold hnew q
  show wpAny _ _ (leaving _ (.ref x)) _ _ s
  refine leave_at (X := cx1 P w K mg base N qual scope f cdv A outer s₀ H₀ E) I rfl rfl F hold hnew fun h' J' F' => ?_
  exact ⟨x, cls, o, H, rfl, J'.os, J'.bare, J'.base, J'.hok, F'.since fun b hb => (hold b hb).1, q⟩
/-- an exception of a callee passes through -/
theorem pass1 : Passes (CX1 P w) (cx1 P w K mg base N qual scope f cdv A outer s₀ H₀ E) E := by
  intro pins σ H s e s' I h
  obtain ⟨x, cls, o, H', rfl, J, fl, hn, q⟩ := I.afterX h
  exact xout1 pins σ H' s' x cls _ o s.heap J fl (I.held rfl) hn q
/-- a new exception leaves -/
theorem raise2 {pins : List (Addr × Obj)} {σ : St} {H : Hp} {s : Shared} {h₀ : Heap} {x : Addr} {cls : Value} (I : Inv (cx1 P w K mg base N qual scope f cdv A outer s₀ H₀ E) pins σ H s) (F : FreshAt H h₀ s.heap x cls o) (hold : Held (cx1 P w K mg base N qual scope f cdv A outer s₀ H₀ E) pins h₀) (hnew : ∀ b, s.heap.get? b = none → h₀.get? b = none) (q : E cls o H) :
    (cx1 P w K mg base N qual scope f cdv A outer s₀ H₀ E).xe (.ref x) s := by
  show wpAny _ _ (leaving _ (.ref x)) _ _ _
  refine leave_new (X := cx1 P w K mg base N qual scope f cdv A outer s₀ H₀ E) I rfl rfl F hold hnew fun h' J F => ?_
  exact ⟨x, cls, o, H, rfl, J.os, J.bare, J.base, J.hok, F.since fun b hb => (hold b hb).1, q⟩
theorem made_fresh {H : Hp} {h h1 : Heap} {x : Addr} {cls : Value} {vs : List Value} (hx : H x = none) (m : Heap.MadeExcOf h h1 x cls vs) : FreshAt H h h1 x cls none := by
  obtain ⟨t, he, _, _⟩ := m.there
  exact ⟨hx, m.new, _, _, he, rfl, rfl, rfl, fun _ => rfl⟩
theorem raise1 {pins : List (Addr × Obj)} {σ : St} {H : Hp} {s : Shared} {h1 : Heap} {x : Addr} {cls : Value} {vs : List Value} (I : Inv (cx1 P w K mg base N qual scope f cdv A outer s₀ H₀ E) pins σ H s) (m : Heap.MadeExcOf s.heap h1 x cls vs) (q : E cls none H) :
    (cx1 P w K mg base N qual scope f cdv A outer s₀ H₀ E).xe (.ref x) { s with heap := h1 } :=
  raise2 (s := { s with heap := h1 }) (I.kept (t' := s.toks) m.keeps) (made_fresh (I.hok.none m.new) m) (I.held rfl) (fun b hb => by
    cases q : s.heap.get? b with
    | none => rfl
    | some o => rw [m.keeps b o q] at hb; cases hb) q
end
end L2
namespace L2
open PySem PySem.W PySem.Spec PyProof.Rows
/-! ### raise of an own class -/
theorem exc_obj {K : Frag} {h : Heap} {C : Addr} {bmB : List Value} {newId : String} (X : K.In h) (q : excIn K C bmB newId = true) :
    ∃ bm N nm q bs hdct sn sub ab col dd k0 k1 k2 k3 k5 mN, h.get? C = some (excClassObj nm q C N bs bm hdct sn sub ab col dd k0 k1 k2 k3 k5 newId) ∧ h.Ns N mN ∧ mN "__init__" = none ∧ OwnTail h bmB bm := by
  unfold excIn at q
  split at q
  · rename_i dd cd sl ho
    split at q
    · rename_i C' bm k0 k1 k2 k3 n k5 hm hs
      simp only [Bool.and_eq_true, beq_iff_eq, Bool.not_eq_true'] at q
      obtain ⟨⟨⟨⟨⟨rfl, rfl⟩, hdel⟩, ht⟩, hok⟩, hni⟩ := q
      obtain ⟨nm, bs, mro, ns, qn, hd, sn, sub, ab, col, del⟩ := cd
      dsimp only at hm hdel hok hni
      subst hm hdel
      have hsl : sl = #[k0, k1, k2, k3, some (.builtin n), k5] := by
        obtain ⟨l⟩ := sl
        simp only at hs
        rw [hs]
      subst hsl
      exact ⟨bm, ns, nm, qn, bs, hd, sn, sub, ab, col, dd, k0, k1, k2, k3, k5, _, X _ _ ho, .of_isNs (isNs_of_in X hok), nsMap_none_of_in X hok hni, tail_of_in X ht⟩
    · cases q
  · cases q
/-- the base classes of ValueError -/
abbrev bmV : List Value := [.type "ValueError", .type "Exception", .type "BaseException", .type "object"]
def tRaise (C : Addr) (E : XK) (ta : TA) : TS := fun _ σ H => ta σ H fun vs H1 => vs.length ≤ sizeLine ∧ E (.ref C) none H1
section
variable {P : Program} {w : World} {K : Frag} {mg : Str → Option Value} {base : Heap} {N : List Str} {qual : Str} {scope : Scope} {f : Addr} {cdv : Value} {A : Around} {outer : List Env} {s₀ : Shared} {H₀ : Hp} {E : XK}
theorem ps_raise {x : Str} {C : Addr} {e₀ : Expr} {rest : List Expr} {ta : TA} {np cpos pos : Pos} (hg : Gl (cx1 P w K mg base N qual scope f cdv A outer s₀ H₀ E) x) (hm : mg x = some (.ref C)) (hq : excIn K C bmV "ValueError.__new__" = true)
    (ha : PA (cx1 P w K mg base N qual scope f cdv A outer s₀ H₀ E) (e₀ :: rest) ta) (hd : (x == ("__debug__" : Str)) = false := by decide)
    (he : starEach (e₀ :: rest) (cx1 P w K mg base N qual scope f cdv A outer s₀ H₀ E).env = (false, eval e₀ (cx1 P w K mg base N qual scope f cdv A outer s₀ H₀ E).env) :: starEach rest (cx1 P w K mg base N qual scope f cdv A outer s₀ H₀ E).env := by rfl)
    (hpl : (backTo cpos (starEach rest (cx1 P w K mg base N qual scope f cdv A outer s₀ H₀ E).env)).any (·.1) = false := by rfl) :
    PS (cx1 P w K mg base N qual scope f cdv A outer s₀ H₀ E) (.Raise (some (.Call (.Name x np) (e₀ :: rest) [] cpos)) none pos) (tRaise C E ta) := by
  intro pins s σ H D I h
  obtain ⟨bm, Na, nm, q, bs, hdct, sn, sub, ab, col, dd, k0, k1, k2, k3, k5, mN, hC, hN, hni, T⟩ := exc_obj I.ok.mod.kin hq
  have FB := PySem.F.excBase_ValueError
  refine wpAny_Raise_call_subT (C := C) (nm := nm) (q := q) (N := Na) (bs := bs) (bm := bm) (hdct := hdct) (sn := sn) (sub := sub) (ab := ab) (col := col) (dd := dd) (k0 := k0) (k1 := k1) (k2 := k2) (k3 := k3) (k5 := k5)
    FB (mN := mN) (T.hasType FB.hasBase) (I.ok.hd rfl) (by rw [he]; show (false || (backTo cpos (starEach rest _)).any (·.1)) = false; rw [hpl]; rfl) hni (ld_glob I hg hm ⟨rfl, ?_⟩ hd)
  have ha' := ha cpos pins s σ H _ I h
  rw [he] at ha' ⊢
  refine Calls.evalArgs_plain (wpAny_mono ha' (fun us s₂ h₂ => ?_) fun _ _ y => y)
  obtain ⟨vs, H1, I2, r, hl, hE⟩ := h₂
  exact ⟨rfl, by rw [← r.length]; exact hl, I2.bk _ _ hC, hN.keeps I2.bk, T.keeps I2.bk, fun h' e m => raise1 I2 m hE⟩
/-- THE RULE for a def that may raise -/
theorem Fun.ok1 {x qual : Str} {st : Stmt} {f : Addr} {fd : FuncData} {N ps : List Str} {k : Nat} {sp : Sp} (F : Fun K x qual st f fd) (S : FnScope N ps (defScope st)) (len : ∀ vs H Q E, sp vs H Q E → vs.length = ps.length)
    (hbody : ∀ (cdv : Value) (A : Around) (outer : List Env) (s : Shared) (H : Hp) (vs : List V) (Q : VK) (E : XK), Room k (A.deeper (envOfC qual (defScope st) s.heap.objs.size f cdv)) → sp vs H Q E →
      ∃ t, PSs (cx1 P w K mg base N qual (defScope st) f cdv A outer s H E) (defBody st) t ∧ t { nx := fun _ H' => Q .non H', rt := Q } (start N vs) H) : FnOk P w K mg base (CX1 P w) (k + 1) f fd ps sp := by
  obtain ⟨oc, od, kV, doc, pm, an, cdv, ct, osl, rfl, lk, hcd⟩ := F.ex
  exact fn_of lk hcd S len fun A outer s H vs Q E hr hsp => hbody cdv A outer s H vs Q E hr hsp
end
end L2
namespace L2
open PySem PySem.W PySem.Spec PyProof.Rows
section
variable {prog : Program} {w : World} {A : Around} {E : Value → Shared → Prop} {s : Shared} {K : Frag} {x C D : Addr}
/-- what is caught: D a class of exceptions, C one under it -/
structure Caught (K : Frag) (C D : Addr) : Prop where
  ty : typeIn K (.ref D) = some (.type "type")
  cls : (clsIn K D).isSome = true
  mb : mroIn K D (.type "BaseException") = some true
  mro : mroIn K C (.ref D) = some true
theorem excMatch_own {Q : Bool → Shared → Prop} (X : K.In s.heap) (ex : ExcAt x C s.heap) (c : Caught K C D) (h : Q true s) : wpAny (model prog w) A (excMatches (.ref x) (.ref D)) Q E s := by
  obtain ⟨hh, g, d, t, os⟩ := s
  have L0 := ex.type (M := model prog w)
  have L1 := looks_typeIn (M := model prog w) X c.ty
  have L2 := looks_mroIn (M := model prog w) X c.mb
  have L3 := looks_mroIn (M := model prog w) X c.mro
  have L4 : Looks (model prog w) hh (isSubtype (.type "type") (.type "tuple")) false := Looks.of_pure tc_notTuple
  have L5 : Looks (model prog w) hh (isType (.ref D)) true := by
    obtain ⟨cdD, hcD⟩ := Option.isSome_iff_exists.mp c.cls
    unfold clsIn at hcD
    split at hcD
    · rename_i c' d' cd' sl' ho
      intro A' Q' E' s' k q
      unfold isType loadHead
      exact wpAny_bind (wpAny_loadPart (k _ _ (X _ _ ho)) (wpAny_pure q))
    · cases hcD
  unfold excMatches isInstance
  repeat lk
  exact h
end
/-! ### try: a call; except D as n: a suite -/
abbrev Cx.inEx (X : Cx) (x : Addr) : Cx := { X with A := X.A.mark (some (.ref x)), calm := false, xe := fun _ _ => False }
theorem Cx.Ok.inEx {X : Cx} (ok : X.Ok) (x : Addr) : (X.inEx x).Ok :=
  ⟨ok.mod, ok.kind, ok.glob, ok.blt, ok.above, ok.inj, ok.has, ok.cab, (fun z => nomatch z), ok.frames, ok.stk, ok.exf, ok.bs, ok.bsz, ok.noex, ok.exfs, ok.funs, ok.frf⟩
section
variable {X : Cx} {pins : List (Addr × Obj)} {σ : St} {H : Hp} {s : Shared} {x : Addr}
theorem Inv.inEx (I : Inv X pins σ H s) (x : Addr) : Inv (X.inEx x) pins σ H s := ⟨I.ok.inEx x, I.os, I.bare, I.base, I.loc, I.cell, I.free, I.freeC, I.pin, I.hok, I.len⟩
theorem Inv.outEx (I : Inv (X.inEx x) pins σ H s) (ok : X.Ok) : Inv X pins σ H s := ⟨ok, I.os, I.bare, I.base, I.loc, I.cell, I.free, I.freeC, I.pin, I.hok, I.len⟩
/-- the exception in hand is tracked -/
theorem Inv.track {C : Addr} (I : Inv X pins σ H s) (hx : H x = none) (h0 : X.s₀.heap.get? x = none ∧ x ≠ X.env.locals ∧ (∀ y c, X.env.cells.lookup y = some c → c ≠ x) ∧ ∀ p ∈ X.pn ++ pins, p.1 ≠ x) (p : ExcAt x C s.heap) : Inv X pins σ (upd H x (.ext (ExcAt x C))) s := by
  have ne : ∀ b u, H b = some u → b ≠ x := fun b u e => ne_of_none e hx
  refine I.step2 (g' := s.gens) (t' := s.toks) (d' := s.drawn) (h' := s.heap) (ch := [x]) (fun b hb => ?_) (fun b o _ _ _ e _ => e) (fun b o _ _ _ e _ => ⟨o.slots, e⟩) (fun b o hb _ n => ?_) (fun b o _ e => ⟨o, e⟩) (fun b xs e => ?_) (fun b o u e => ?_) (fun b ps e => ⟨#[], ?_⟩) (fun m hm => hm) (fun b u e => ?_) I.bare
  · rw [List.mem_singleton.mp hb]; exact ⟨.inr h0.1, h0.2⟩
  · rw [upd_ne (by simpa using hb)]; exact n
  · rw [upd_ne (ne b _ e)]; exact e
  · rw [upd_ne (ne b _ e)]; exact e
  · rw [upd_ne (ne b _ e), e]; simp
  · by_cases hb : b = x
    · subst hb
      rw [upd_same] at e
      cases e
      obtain ⟨o, h1, h2⟩ := p
      exact ⟨⟨o, h1, h2⟩, ⟨o, h1⟩, fun h1 h2 q k => q.stay k⟩
    · rw [upd_ne hb] at e
      exact (I.hok b u e).stay (fun _ _ _ q => q) (fun c q => by rw [upd_ne (ne c _ q)]; exact q) fun c xs q => by rw [upd_ne (ne c _ q)]; exact q
/-- a plain local name is deleted -/
theorem Inv.unbound {i : Nat} {n : Str} {h' : Heap} {m : Str → Option Value} {u : Option Value} (I : Inv X pins σ H s) (hN : X.N.Nodup) (hi : X.N[i]? = some n) (hm : s.heap.Ns X.env.locals m) (hn : h'.Ns X.env.locals fun y => if y = n then u else m y)
    (hs : Heap.SameBut X.env.locals s.heap h') (hloc : X.env.scope.names.lookup n = some .local) : Inv X pins (σ.set i none) H { s with heap := h' } := by
  obtain ⟨m', hn', hl⟩ := id I.loc
  have cne := I.cne
  have ltL : ∀ b o, X.s₀.heap.get? b = some o → b ≠ X.env.locals := fun b o e => Nat.ne_of_lt (Nat.lt_of_lt_of_le (Heap.lt_size e) I.ok.above)
  refine ⟨I.ok, I.os, I.bare, ⟨fun b o e n hb hx => (hs.2 b (ltL b o e)).trans (I.base.keep b o e n hb hx), fun b o e n hb hx => ?_, I.base.free, fun b o e hx => ?_, I.base.tups, I.base.frzs, I.base.tbls⟩, ⟨_, hn, fun j y v' e1 e2 e3 => ?_⟩, fun y c e => ?_, I.free, I.freeC, fun p hp => ?_, fun b ob e => ?_, by simpa using I.len⟩
  · obtain ⟨sl, e1⟩ := I.base.slot b o e n hb hx
    exact ⟨sl, (hs.2 b (ltL b o e)).trans e1⟩
  · obtain ⟨o', e1⟩ := I.base.there b o e hx
    exact ⟨o', (hs.2 b (ltL b o e)).trans e1⟩
  · have hj : j ≠ i := fun z => by
      subst z
      by_cases hl2 : j < σ.length
      · rw [List.getElem?_set_self hl2] at e2; cases e2
      · rw [List.getElem?_eq_none (by simpa using hl2)] at e2; cases e2
    rw [List.getElem?_set_ne (Ne.symm hj)] at e2
    obtain ⟨u', r', q⟩ := hl j y v' e1 e2 e3
    refine ⟨u', r', ?_⟩
    have hyn : y ≠ n := fun e => hj (nodup_ix hN e1 (e ▸ hi))
    rcases q with ⟨k, e⟩ | ⟨k, c, e, z⟩
    · refine .inl ⟨k, ?_⟩
      have : m = m' := hm.eq_nsMap.trans hn'.eq_nsMap.symm
      show (if y = n then u else m y) = some u'
      rw [if_neg hyn, this]
      exact e
    · exact .inr ⟨k, c, e, z.sameBut hs (cne y c e)⟩
  · obtain ⟨w', z⟩ := I.cell y c e
    exact ⟨w', z.sameBut hs (cne y c e)⟩
  · obtain ⟨e, nn, ne, nf, d⟩ := I.pin p hp
    exact ⟨(hs.2 p.1 ne).trans e, nn, ne, nf, d⟩
  · refine (I.hok b ob e).stay (fun c w' hc q => (hs.2 c ?_).trans q) (fun _ q => q) fun _ _ q => q
    rintro rfl
    rcases hc with rfl | hc
    · rw [I.free] at e; cases e
    · rw [I.free] at hc; cases hc
end
end L2
namespace L2
open PySem PySem.W PySem.Spec PyProof.Rows
section
variable {X : Cx}
/-- how an exception lies in the frame that called -/
def Lies (X : Cx) (pins : List (Addr × Obj)) (σ : St) (Ex : XK) (ex : Value) (s' : Shared) : Prop := ∃ x cls o H' h₀, ex = .ref x ∧ Inv X pins σ H' s' ∧ Flies H' h₀ s'.heap x cls o ∧ Held X pins h₀ ∧ (∀ b, s'.heap.get? b = none → h₀.get? b = none) ∧ Ex cls o H'
/-- an expression that may raise -/
def PX (X : Cx) (e : Expr) (t : XK → TE) : Prop :=
  ∀ (pins : List (Addr × Obj)) (s : Shared) (σ : St) (H : Hp) (Q : VK) (Ex : XK), Inv X pins σ H s → t Ex σ H Q → wpAny (model X.prog X.w) X.A (eval e X.env) (EP X pins σ Q) (Lies X pins σ Ex) s
theorem px_call {k : Nat} {f : Addr} {fd : FuncData} {ps : List Str} {sp : Sp} {g : Str} {p pos : Pos} {e : Expr} {es : List Expr} {t : TA} (F : FnOk X.prog X.w X.K X.mg X.base (CX1 X.prog X.w) k f fd ps sp) (hr : Room k X.A) (hg : Gl X g) (hm : X.mg g = some (.ref f)) (hk : keepIn X.K (.ref f) = true) (hb : Binds X.K fd ps [])
    (hex : X.ex = []) (ha : ∀ xe, PA (X.wish xe) (e :: es) t) (hdb : (g == ("__debug__" : Str)) = false := by decide) (he : starEach (e :: es) X.env = (false, eval e X.env) :: starEach es X.env := by rfl) (hpl : (backTo pos (starEach es X.env)).any (·.1) = false := by rfl) :
    PX X (.Call (.Name g p) (e :: es) [] pos) (fun Ex => tCall sp [] Ex t) := by
  intro pins s σ H Q Ex I h
  refine wpAny_Call_Name_kw (ld_glob I hg hm ?_ hdb)
  refine PySem.W.callWith_K (h₀ := X.base) I.ok.mod.kin hk (thn (ha (Lies X pins σ Ex) pos pins s σ H _ (I.wish _) h) fun us s1 ⟨vs, H1, I1', r, q⟩ => ⟨I1'.unwish.kIn, ?_⟩) he hpl
  have I1 : Inv X pins σ H1 s1 := I1'.unwish
  have q : sp vs H1 Q Ex := by
    have q' : sp (vs ++ []) H1 Q Ex := q
    rw [List.append_nil] at q'
    exact q'
  have hl : us.length = ps.length := by rw [← r.length]; exact F.len _ _ _ _ q
  have hb' := hb s1 us I1.kIn (by rw [List.append_nil]; exact hl)
  rw [List.append_nil] at hb'
  refine wpAny_call (codeAny_mono (F.run X.A X.stack s1 H1 ⟨us, []⟩ us vs Q Ex hr I1.env0 hb' r q) fun r s' hq => ?_)
  cases r with
  | error ex =>
    obtain ⟨x, cls, o, H', rfl, J, fl, hn, q'⟩ := I1.afterX hq
    exact ⟨x, cls, o, H', s1.heap, rfl, J, fl, I1.held hex, hn, q'⟩
  | ok fl =>
    cases fl with
    | ret u => exact I1.after hq
    | next => exact False.elim hq
    | brk => exact False.elim hq
    | cont => exact False.elim hq
/-- a statement of one such expression -/
def PXS (X : Cx) (st : Stmt) (t : XK → TS) : Prop :=
  ∀ (pins : List (Addr × Obj)) (s : Shared) (σ : St) (H : Hp) (D : Ends) (Ex : XK), Inv X pins σ H s → t Ex D σ H → wpAny (model X.prog X.w) X.A (exec st X.env) (SP X pins D) (Lies X pins σ Ex) s
theorem pxs_expr {e : Expr} {t : XK → TE} {pos : Pos} (he : PX X e t) (hs : swapsWith e none pos.line X.env = pure false := by rfl) : PXS X (.Expr e pos) (fun Ex => tDrop (t Ex)) := by
  intro pins s σ H D Ex I h
  exact wpAny_Expr_any (thn (he pins s σ H _ Ex I h) fun v s1 ⟨x, H1, I1, r1, q1⟩ => ⟨σ, H1, I1, q1⟩) I.quiet hs
theorem pxs_set {i : Nat} {y : Str} {e : Expr} {t : XK → TE} {pos' pos : Pos} (hN : X.N.Nodup) (hi : X.N[i]? = some y) (hx : Loc X.env.scope y) (he : PX X e t) (hs : swapsWith e (some (.Name y pos')) pos.line X.env = pure false := by rfl) (hf : X.fn y = true ∨ X.env.scope.names.lookup y = some .local := by first | exact .inl rfl | exact .inr rfl | assumption) :
    PXS X (.Assign [.Name y pos'] e pos) (fun Ex => tAsg (t Ex) (gName i)) := by
  intro pins s σ H D Ex I h
  refine wpAny_Assign_Name (thn (he pins s σ H _ Ex I h) fun v s1 ⟨y, H1, I1, r1, q1⟩ => ?_) hs
  exact store_ok I1 hN hi hx r1 (fun s2 I2 => ⟨_, H1, I2, q1⟩) hf
theorem FliesAt.exAt {H : Hp} {h₀ h : Heap} {x C : Addr} {fl : Value} {o : Option Addr} (F : FliesAt H h₀ h x (.ref C) fl o) : ExcAt x C h := by
  obtain ⟨_, _, oe, vs, T, oT, ts, g1, g2, _⟩ := F
  exact ⟨oe, g1, g2⟩
/-- what is asked of a try -/
def tTry (K : Frag) (Dc : Addr) (i : Nat) (t : XK → TS) (th : TS) : TS := fun D σ H => t (fun cls _ H' => ∃ C, cls = .ref C ∧ Caught K C Dc ∧ ∀ x, H' x = none → th { nx := fun σ' H3 => D.nx (σ'.set i none) H3, rt := fun _ _ => False } (σ.set i (some (.ref x))) (upd H' x (.ext (ExcAt x C)))) D σ H
theorem ps_try {st : Stmt} {t : XK → TS} {c n : Str} {Dc : Addr} {i : Nat} {b₀ : Stmt} {suite : List Stmt} {th : TS} {np hpos pos : Pos} (hst : X.stack = X.env :: X.outer) (hfr : X.env.frame = some X.env.locals) (hN : X.N.Nodup) (hi : X.N[i]? = some n) (hloc : X.env.scope.names.lookup n = some .local)
    (hb : PXS X st t) (hg : Gl X c) (hm : X.mg c = some (.ref Dc)) (hs : ∀ x, PSs (X.inEx x) (b₀ :: suite) th) (hd : (c == ("__debug__" : Str)) = false := by decide) :
    PS X (.Try [st] [.ExceptHandler (some (.Name c np)) (some n) (b₀ :: suite) hpos] [] [] pos) (tTry X.K Dc i t th) := by
  intro pins s σ H D I h
  have hcls : (X.env.scope.kind == .class || (X.env.scope.kind == .module && X.env.locals != X.env.globals)) = false := by rw [I.ok.kind]; rfl
  refine wpAny_Try_except (wpAny_execs_cons (wpAny_mono (hb pins s σ H D _ I h) (fun fl s1 q => ?_) fun ex s1 q => ?_))
  · cases fl with
    | next => exact wpAny_execs_nil (wpAny_execs_nil q)
    | ret v => exact q
    | brk => exact q
    | cont => exact q
  · obtain ⟨x, cls, o, H', h₀, rfl, J, fl, hold, hnew, C, rfl, hC, q⟩ := q
    refine note_at J hst hfr fl hold hnew fun h4 J4 F4 n4 _ => ?_
    refine flight_at (fo := none) J4 F4 hold n4 fun h5 J5 F5 hnew5 _ => ?_
    refine wpAny_handleBy_cons (codeAny_handlers_test ?_) (by intro q; cases q)
    refine ld_glob (X := X.inEx x) (J5.inEx x) hg hm ?_ hd
    refine excMatch_own (K := X.K) (s := { s1 with heap := h5 }) J5.kIn F5.exAt hC ?_
    refine codeAny_handlers_suite_as ?_
    refine flight_at (fo := none) (s := { s1 with heap := h5 }) J5 F5 hold hnew5 fun h7 J7 F7 _ _ => ?_
    have J8 := J7.track F7.1 (hold x F7.2.1) F7.exAt
    refine store_ok (X := X.inEx x) (J8.inEx x) hN hi (.inl hloc) (show RelV (.ref x) (.ref x) from rfl) (fun s9 J9 => ?_) (.inr hloc)
    refine wpAny_mono (hs x pins s9 _ _ _ J9 (q x fl.1)) (fun fl s3 z => ?_) fun _ _ z => z.elim
    cases fl with
    | next =>
      obtain ⟨σ', H3, J3, z⟩ := z
      have K3 : Inv X pins σ' H3 s3 := J3.outEx I.ok
      refine wpAny_bind (wpAny_bindName (store_ok K3 hN hi (.inl hloc) (show RelV .non .none from rfl) (fun s4 K4 => ?_) (.inr hloc)))
      obtain ⟨m, hm4, hl4⟩ := id K4.loc
      have hin : i < σ'.length := by rw [K3.len]; exact (List.getElem?_eq_some_iff.mp hi).1
      obtain ⟨u, ru, lk⟩ := hl4 i n .non hi (List.getElem?_set_self hin) (.inl hloc)
      have hmn : m n = some u := by
        rcases lk with ⟨_, e⟩ | ⟨k, _⟩
        · exact e
        · have k' : X.env.scope.names.lookup n = some .cell ∨ X.env.scope.names.lookup n = some .free := k
          rw [hloc] at k'
          rcases k' with z | z <;> cases z
      unfold unbindBehindTheSuite
      refine wpAny_onRaise (wpAny_unbindName_local (show X.env.kindOf n = some .local from hloc) hm4 hmn hcls fun h' u' hn' hs' => ?_)
      have K5 := K4.unbound (s := s4) hN hi hm4 hn' hs' hloc
      rw [List.set_set] at K5
      exact ⟨_, H3, K5, z⟩
    | ret v => obtain ⟨_, _, _, _, _, z⟩ := z; exact z.elim
    | brk => obtain ⟨_, _, _, z⟩ := z; exact z.elim
    | cont => obtain ⟨_, _, _, z⟩ := z; exact z.elim
end
end L2
namespace L2
open PySem PySem.Spec PyProof.Rows PySem.W
/-! ### comprehensions whose element may raise -/
section
variable {X : Cx} {x : Str} {px pos : Pos} {elt iter : Expr} {ifs : List Expr} {scope : Scope} {ys : List Str} {js : List Nat} {tc : TT} {te : TE} {wi : TI}
theorem comp_coreX {Ex : XK} {cl : List (Str × Addr)} (S : CScope X scope x ys js cl) (hc : X.calm = true)
    (ht : ∀ C s H fp, PIfs (blk X scope (x :: ys) cl C s H fp) ifs tc) (hex : X.ex = []) (he : ∀ C s H fp Z, (∀ pins σ H₁ s₁ e s', Inv (blk X scope (x :: ys) cl C s H fp) pins σ H₁ s₁ → CX1 X.prog X.w X.stack H₁ s₁ Ex e s' → Z e s') → PE ((blk X scope (x :: ys) cl C s H fp).wish Z) elt te)
    {pins : List (Addr × Obj)} {σ : St} {s2 : Shared} {E : Value → Shared → Prop} {RR : Value → Addr → Result → Shared → Prop} {it : Addr} {fp : List Addr} {tn : Nat → Heap → Prop} {J : It} {H2 : Hp} {Q : VK}
    (I2 : Inv X pins σ H2 s2) (T : Turn X.prog X.w X.K (.Name x px) J fp it tn) (st2 : tn 0 s2.heap) (f2 : ∀ b ∈ fp, FpOk X pins H2 b)
    (q : ∀ D, H2 D = none → CompW J (fun v => some v :: capS js σ) tc te D Q H2)
    (hRR : ∀ D C Hf s', Inv X pins σ Hf s' → (∃ m, s'.heap.Ns C m) → FpOk X pins Hf C → Q (.ref D) Hf → RR (.ref D) C (.ok .next) s')
    (hXX : ∀ D C Hf s' xa cls o h₀, Inv X pins σ Hf s' → (∃ m, s'.heap.Ns C m) → FpOk X pins Hf C → Flies Hf h₀ s'.heap xa cls o → Held X pins h₀ → (∀ b, s'.heap.get? b = none → h₀.get? b = none) → Ex cls o Hf → wpAny (model X.prog X.w) X.A (noteFrame (.ref xa) X.env) (fun _ s'' => RR (.ref D) C (.error (.ref xa)) s'') (fun e s'' => RR (.ref D) C (.error e) s'') s') :
    wpAny (model X.prog X.w) X.A (newList []) (fun acc s₃ => wpAny (model X.prog X.w) X.A (newFunctionEnv scope X.env.globals cl [] X.env.qual none .none (some X.env)) (fun cenv s₄ =>
      codeAny (model X.prog X.w) X.A (.compStart (.ListComp elt [⟨.Name x px, iter, ifs, 0⟩] scope pos) 0 (.ref it) acc { cenv with scope := relabel scope X.env }) (RR acc cenv.locals) s₄) E s₃) E s2 := by
  have fr2 : H2 s2.heap.objs.size = none := I2.hok.fresh (Nat.le_refl _)
  have flt : ∀ b ∈ fp, b < s2.heap.objs.size := fun b hb => let ⟨o, e, _⟩ := T.obj 0 _ st2 b hb; Heap.lt_size e
  refine wpAny_newObj_type (wpAny_newFunctionEnv S.nocell (by intro y hy; simp at hy) (fun h₁ hns₁ hsb₁ => ?_) S.kind) (by show 0 ≤ sizeLine; exact Nat.zero_le _)
  dsimp only at hns₁ hsb₁ ⊢
  have I3 : Inv X pins σ (upd H2 s2.heap.objs.size (.lst [])) { s2 with heap := s2.heap.push { cls := .type "list", dict := none, data := .seq ([] : List Value).toArray } } :=
    Inv.lnew (t' := s2.toks) I2 (its := []) .nil (Nat.zero_le _)
  obtain ⟨W, ⟨m0, w0⟩, turn⟩ := q _ fr2
  generalize hD : s2.heap.objs.size = D at *
  generalize hH3 : upd H2 D (.lst []) = H3 at *
  have hsz3 : (s2.heap.push { cls := .type "list", dict := none, data := .seq ([] : List Value).toArray }).objs.size = D + 1 := by rw [Heap.size_push, hD]
  have up3 : ∀ b o, s2.heap.get? b = some o → (s2.heap.push { cls := .type "list", dict := none, data := .seq ([] : List Value).toArray }).get? b = some o := fun b o e => Heap.get?_push_of_some _ e
  generalize hs3 : s2.heap.push { cls := .type "list", dict := none, data := .seq ([] : List Value).toArray } = h3 at *
  have fnD : ∀ b ∈ fp, b ≠ D := fun b hb => Nat.ne_of_lt (flt b hb)
  have f3 : ∀ b ∈ fp, FpOk X pins H3 b := fun b hb => ⟨by rw [← hH3, upd_ne (fnD b hb)]; exact (f2 b hb).1, (f2 b hb).2⟩
  have flt3 : ∀ b ∈ fp, b < h3.objs.size := fun b hb => by rw [hsz3]; exact Nat.lt_succ_of_lt (flt b hb)
  have keep : ∀ b o, h3.get? b = some o → h₁.get? b = some o := fun b o e => hsb₁.extBut b o (Nat.ne_of_lt (Heap.lt_size e)) (Heap.get?_push_of_some _ e)
  have I4 := blk_ok (x := x) (s := { s2 with heap := h3 }) (tk := s2.toks + ([] : List (Str × Value)).length) I3 S.kind S.cap S.cells S.has f3 flt3 ⟨_, hns₁⟩ keep
  generalize hC : h3.objs.size = C at *
  have st4 : tn 0 h₁ := T.keep 0 _ _ st2 fun b _ o e => keep b o (up3 b o e)
  -- a state of the block is a state of the def
  have back : ∀ {pins' : List (Addr × Obj)} {σ' : St} {Hf : Hp} {s' : Shared}, Inv (blk X scope (x :: ys) cl C { s2 with heap := h3 } H3 fp) pins' σ' Hf s' → Inv X pins σ Hf s' := fun {pins' σ' Hf s'} J' =>
    I3.call' J'.os J'.base J'.hok J'.bare fun b hb => ⟨(f3 b hb).2.2.2.1, (f3 b hb).2.1, (f3 b hb).2.2.2.2.1, (f3 b hb).2.2.2.2.2⟩
  have fC : ∀ {Hf : Hp}, Hf C = none → FpOk X pins Hf C := fun hn => I3.fpOk (by rw [← hC]; exact Nat.le_refl _) hn
  have loop : codeAny (model X.prog X.w) X.A (.compLoop (.ListComp elt [⟨.Name x px, iter, ifs, 0⟩] scope pos) 0 (.ref it) (.ref D) (compEnvC scope cl C X.env)) (RR (.ref D) C)
      { s2 with heap := h₁, toks := s2.toks + ([] : List (Str × Value)).length } := by
    refine codeAny_loop rfl (fun n s' => ∃ i zs H', Inv (blk X scope (x :: ys) cl C { s2 with heap := h3 } H3 fp) [] (none :: capS js σ) H' s' ∧ tn i s'.heap ∧ (∀ b ∈ fp, H' b = none) ∧ W i n zs H')
      ?_ m0 ⟨0, [], H3, I4, st4, fun b hb => (f3 b hb).1, w0⟩
    rintro n s5 ⟨i, zs, H5, I5, st5, fr5, w5⟩
    show wpAny (model X.prog X.w) X.A ((compTurn (.ListComp elt [⟨.Name x px, iter, ifs, 0⟩] scope pos) 0 (.ref it) (.ref D) (compEnvC scope cl C X.env)).onRaise (fun e => do noteFrame e (compEnvC scope cl C X.env); theTreesLotGoes e)) _ _ s5
    refine wpAny_noted ?_
    rw [compTurn_list]
    have stat : ∀ {H' : Hp}, (∀ b ∈ fp, H' b = none) → ∀ b ∈ fp, FpOk (blk X scope (x :: ys) cl C { s2 with heap := h3 } H3 fp) [] H' b := fun hn b hb =>
      ⟨hn b hb, I5.ok.exf b hb |>.1, I5.ok.exfs b hb, .inl hb, I5.ok.exf b hb |>.2, fun p hp => absurd (show p ∈ ([] : List (Addr × Obj)) from hp) (by simp)⟩
    obtain ⟨hHD, way⟩ := turn i n zs H5 w5
    rcases way with ⟨stop, fin⟩ | ⟨go, step⟩
    · refine wpAny_bind (wpAny_standAt (wpAny_bind (thn (T.done (blk X scope (x :: ys) cl C { s2 with heap := h3 } H3 fp) rfl rfl rfl hc i [] s5 (none :: capS js σ) H5 _ I5 (stat fr5) st5 stop) fun r s6 ⟨hr, I6⟩ => ?_)))
      subst hr
      exact wpAny_pure (hRR D C H5 s6 (back I6) (let ⟨m, h, _⟩ := I6.loc; ⟨m, h⟩) (fC I6.free) fin)
    · refine wpAny_bind (wpAny_standAt (wpAny_bind (thn (T.item (blk X scope (x :: ys) cl C { s2 with heap := h3 } H3 fp) rfl rfl rfl hc i [] s5 (none :: capS js σ) H5 _ I5 (stat fr5) st5 go) fun r s6 ⟨u, hr, h6⟩ => ?_)))
      subst hr
      refine wpAny_bind (thn h6 fun _ s7 ⟨v, H7, I7, r7, y7, st7, fr7⟩ => ?_)
      have I7' := I7.pinned (stat fr7) (T.obj _ _ st7)
      refine wpAny_bind (wpAny_mono (pg_name (i := 0) (X := blk X scope (x :: ys) cl C { s2 with heap := h3 } H3 fp) S.nd rfl (.inl (lookup_relabel_local S.own)) (.inr (lookup_relabel_local S.own)) _ s7 (none :: capS js σ) H7 v u
        (fun σ' H' => σ' = some v :: capS js σ ∧ H' = H7) I7' r7 ⟨rfl, rfl⟩) (fun _ s8 ⟨σ8, H8, I8, e8, e8'⟩ => ?_) fun _ _ z => False.elim z)
      subst e8 e8'
      refine wpAny_bind (wpAny_mono (ht C { s2 with heap := h3 } H3 fp _ s8 _ _ _ I8 (step v _ y7)) (fun ok s9 ⟨H9, I9, q9⟩ => ?_) fun _ _ z => False.elim z)
      have again : ∀ {σ' : St} {H' : Hp} {s' : Shared} {zs' : List V}, Inv (blk X scope (x :: ys) cl C { s2 with heap := h3 } H3 fp) ([] ++ pinsAt fp s7.heap) (some v :: capS js σ) H' s' → (∃ m', m' < n ∧ W (i + 1) m' zs' H') →
          ∃ m, m < n ∧ ∃ i zs H', Inv (blk X scope (x :: ys) cl C { s2 with heap := h3 } H3 fp) [] (none :: capS js σ) H' s' ∧ tn i s'.heap ∧ (∀ b ∈ fp, H' b = none) ∧ W i m zs H' := fun {σ' H' s' zs'} J' ⟨m', hm, w'⟩ => by
        refine ⟨m', hm, i + 1, zs', H', J'.unpinned.weak (by simp) (fun k v' e => ?_), T.keep _ _ _ st7 fun b hb o e => (J'.pin (b, o) (List.mem_append_right _ (List.mem_append_right _ (mem_pinsAt hb e)))).1, fun b hb => ?_, w'⟩
        · cases k with
          | zero => simp at e
          | succ k => simpa using e
        · obtain ⟨o, e, d⟩ := T.obj _ _ st7 b hb
          exact (J'.pin (b, o) (List.mem_append_right _ (List.mem_append_right _ (mem_pinsAt hb e)))).2.1
      cases ok with
      | false =>
        simp only [Bool.false_eq_true, if_false] at q9 ⊢
        exact wpAny_pure ⟨rfl, again (σ' := []) I9 q9⟩
      | true =>
        simp only [if_true] at q9 ⊢
        refine wpAny_bind (wpAny_bind (wpAny_mono (he C { s2 with heap := h3 } H3 fp (notedBy (model X.prog X.w) X.A (compEnvC scope cl C X.env) fun e s'' => RR (.ref D) C (.error e) s'') (fun pins' σ' H₁ s₁ e s' J₁ cx => ?_) _ s9 _ _ _ (I9.wish _) q9) (fun a s10 ⟨y, H10, I10', r10, hD10, hz10, q10⟩ => ?_) fun _ _ z => z))
        · obtain ⟨xa, cls, o, H', rfl, J', fl', hn', q'⟩ := J₁.afterX cx
          show wpAny _ _ (noteFrame (.ref xa) X.env) _ _ s'
          exact hXX D C H' s' xa cls o s₁.heap (back J') (let ⟨m, h, _⟩ := J'.loc; ⟨m, h⟩) (fC J'.free) fl' ((back J₁).held hex) hn' q'
        have I10 := I10'.unwish
        refine wpAny_bind (wpAny_mono (mt_append (X := blk X scope (x :: ys) cl C { s2 with heap := h3 } H3 fp) _ s10 _ H10 (.ref D) [y] (.ref D) [a] (fun _ H' => H' = upd H10 D (.lst (zs ++ [y]))) I10 rfl (.cons r10 .nil)
          ⟨D, zs, y, rfl, rfl, hD10, hz10, rfl⟩) (fun _ s11 ⟨_, H11, I11, _, e11⟩ => ?_) fun _ _ z => False.elim z)
        subst e11
        exact wpAny_pure (wpAny_pure ⟨rfl, again (σ' := []) I11 q10⟩)
  exact codeAny_compStart_list loop (T.self X.A 0 _ _ _ st4 loop)


theorem FliesAt.but {H : Hp} {h₀ h h' : Heap} {x C : Addr} {cls fl : Value} {o : Option Addr} {m : Str → Option Value} (F : FliesAt H h₀ h x cls fl o) (hm : h.Ns C m) (hs : Heap.SameBut C h h') : FliesAt H h₀ h' x cls fl o := by
  obtain ⟨f1, f2, oe, vs, T, oT, ts, g1, g2, g3, g5, gc, g6, g7, g8, g9, g10, g11⟩ := F
  obtain ⟨ob, es, ep, ho, hd, _⟩ := hm
  have nx : x ≠ C := fun z => by rw [z, ho] at g1; injection g1 with g1; subst g1; rw [hd] at g3; cases g3
  have nT : T ≠ C := fun z => by rw [z, ho] at g9; injection g9 with g9; subst g9; rw [hd] at g10; cases g10
  exact ⟨f1, f2, oe, vs, T, oT, ts, (hs.2 x nx).trans g1, g2, g3, g5, gc, g6, g7, g8, (hs.2 T nT).trans g9, g10, g11⟩
/-- [elt for x in iter], where elt may raise -/
theorem pe_compX {cl : List (Str × Addr)} {Ex : XK} (S : CScope X scope x ys js cl) (hc : X.calm = true) (hex : X.ex = []) (hst : X.stack = X.env :: X.outer) (hfr : X.env.frame = some X.env.locals) (hout : XOut X Ex) (hi : PI X (.Name x px) iter wi)
    (ht : ∀ C s H fp, PIfs (blk X scope (x :: ys) cl C s H fp) ifs tc) (he : ∀ C s H fp Z, (∀ pins σ H₁ s₁ e s', Inv (blk X scope (x :: ys) cl C s H fp) pins σ H₁ s₁ → CX1 X.prog X.w X.stack H₁ s₁ Ex e s' → Z e s') → PE ((blk X scope (x :: ys) cl C s H fp).wish Z) elt te)
    (hs : ∀ x, foldedSetIterable iter X.env x = pure x := by intro _; rfl) : PE X (.ListComp elt [⟨.Name x px, iter, ifs, 0⟩] scope pos) (tComp wi js tc te) := by
  intro pins s σ H Q I h
  rw [eval_ListComp]
  refine wpAny_comprehension_free (use := none) rfl hs S.clos S.kind S.locals (thn (hi pins s σ H _ I h) fun v s1 h1 => thn h1 fun itv s2 h2 => ?_)
  obtain ⟨it, fp, tn, J, H2, e, I2, T, st2, f2, q⟩ := h2
  subst e
  refine comp_coreX (Ex := Ex) (RR := fun acc C => compPost (model X.prog X.w) X.A X.xe none (EP X pins σ Q) acc C) S hc ht hex he I2 T st2 f2 q (fun D C Hf s' I' ns ⟨f0, f1, _, f3, f4, f5⟩ fin => ?_) fun D C Hf s' xa cls o h₀ I' ns ⟨f0, f1, _, f3, f4, f5⟩ fl hold hnew q' => ?_
  · obtain ⟨m, ns⟩ := ns
    exact ⟨m, ns, fun h' hs' => ⟨.ref D, Hf, I'.turned (t' := s'.toks) (fun b o hb e => (hs'.2 b hb).trans e) f0 f1 f3 f4 f5, rfl, fin⟩⟩
  · obtain ⟨m, ns⟩ := ns
    refine note_at I' hst hfr fl hold hnew fun h4 J4 F4 n4 u4 => ⟨m, u4.ns ns, fun h5 hs5 cenv _ => ?_⟩
    have J5 := J4.turned (t' := s'.toks) (h' := h5) (fun b o hb e => (hs5.2 b hb).trans e) f0 f1 f3 f4 f5
    have sz : X.s₀.heap.get? C = none := by
      rcases f3 with z | z
      · rw [hex] at z; cases z
      · exact Heap.get?_none_of_le z
    have hold5 : Held X pins (hideAll h₀ [C]) := fun b hb => by
      by_cases z : b = C
      · subst z; exact ⟨sz, f1, f4, f5⟩
      · refine hold b ?_
        cases e : h₀.get? b with
        | none => rfl
        | some ob => rw [hideAll_get _ e (fun m => z (List.mem_singleton.mp m))] at hb; cases hb
    have n5 : ∀ b, h5.get? b = none → (hideAll h₀ [C]).get? b = none := fun b hb => by
      by_cases z : b = C
      · exact hideAll_none _ (by rw [z]; simp)
      · have e := n4 b ((hs5.2 b z).symm.trans hb)
        cases e2 : (hideAll h₀ [C]).get? b with
        | none => rfl
        | some ob => rw [of_hideAll _ e2] at e; cases e
    have F5 := (F4.but (u4.ns ns) hs5).since (h₀ := hideAll h₀ [C]) (fun b hb => by
      cases e2 : (hideAll h₀ [C]).get? b with
      | none => rfl
      | some ob => rw [of_hideAll _ e2] at hb; cases hb)
    obtain ⟨_, _, oe, vs, T', oT, ts, g1, g2, g3, g5, _⟩ := id F5
    unfold PySem.passOn
    refine wpAny_bind (wpAny_field (s := { s' with heap := h5 }) g1 g3 g5 ?_)
    rw [if_neg (show ¬ (Value.ref T' == Value.none) = true from by simp)]
    exact wpAny_bind (flight_at (s := { s' with heap := h5 }) J5 F5 hold5 n5 fun h6 J6 F6 n6 _ => wpAny_throw (hout pins σ Hf _ xa cls _ o _ J6 F6 hold5 n6 q'))
end
end L2
namespace PySem
open PySem.Spec PySem.W PyProof.Rows
section
variable {prog : Program} {w : World} {A : Around} {E : Value → Shared → Prop} {env : Env}
variable {nm q : Str} {C N : Addr} {bs bm : List Value} {hdct : Bool} {sn : List Str} {sub : List Value} {ab : Bool} {col : Option Bool} {dd : Option Addr} {k0 k1 k2 k3 k5 : Option Value} {newId : String}
theorem entry_unchain : entryFor table "proto.unchain" = some Builtin.«proto.unchain» := entryFor_of_tree (by kernel_rfl)
theorem codeAny_builtin_any {id : String} {args : Args} {b : Builtin} {R : Result → Shared → Prop} {s : Shared} (hb : entryFor table id = some b)
    (h : wpAny (model prog w) (A.under (.builtin id args)) (b args) (fun fin s' => match fin with | .done f => R (.ok f) s' | .again c' => c'.quiet = true ∧ codeAny (model prog w) A c' R s') (fun e s' => R (.error e) s') s) : codeAny (model prog w) A (.builtin id args) R s := by
  refine codeAny_of_tree ?_
  show wpAny _ _ (match entryFor table id with | some b => b args | none => unsupported ((withoutEnding? id "#data").getD id)) _ _ s
  rw [hb]; exact h
theorem unchain_none {s : Shared} {e hx : Addr} {oh : Obj} {vh : Array Value} {Q : Value → Shared → Prop} (h1 : s.heap.get? hx = some oh) (h2 : oh.data = .fields vh) (h3 : vh[2]? = some .none) (k : Q .none s) :
    wpAny (model prog w) A (runValue (.builtin "proto.unchain" ⟨[.ref e, .ref hx, .ref hx, .bool false], []⟩)) Q E s := by
  refine wpAny_runValue (codeAny_builtin_any entry_unchain ?_)
  unfold Builtin.«proto.unchain»
  refine wpAny_bind (wpAny_field h1 h2 h3 ?_)
  rw [if_pos (by rfl)]
  exact wpAny_pure k
theorem wpAny_updField {M : Model} {s : Shared} {a : Addr} {i : Nat} {v : Value} {o : Obj} {vs : Array Value} {Q : Unit → Shared → Prop} (ho : s.heap.get? a = some o) (hd : o.data = .fields vs) (hi : i < vs.size) (h : Q () { s with heap := s.heap.update a (Obj.mapFields (·.setIfInBounds i v)) }) : wpAny M A (updateField a i v) Q E s := by
  unfold updateField
  refine wpAny_bind (wpAny_load ho ?_)
  rw [hd]
  show wpAny _ _ (if i < vs.size then _ else _) _ _ s
  rw [if_pos hi]
  exact wpAny_update ho h
end
end PySem
namespace PySem
open PySem.Spec PySem.W PyProof.Rows
section
variable {prog : Program} {w : World} {A : Around} {E : Value → Shared → Prop} {env : Env}
variable {nm q : Str} {C N : Addr} {bs bm : List Value} {hdct : Bool} {sn : List Str} {sub : List Value} {ab : Bool} {col : Option Bool} {dd : Option Addr} {k0 k1 k2 k3 k5 : Option Value} {newId : String}
theorem raiseStmt_none {s : Shared} {x c : Sem Value} {Q : Flow → Shared → Prop} {hx : Addr} (hbase : bm.contains (.type "BaseException") = true) (hh : A.handled = some (.ref hx)) (hc : ∀ (s : Shared) (Q : Value → Shared → Prop), Q .none s → wpAny (model prog w) A c Q E s)
    (h : wpAny (model prog w) A x (fun v s₁ => ∃ e t, v = .ref e ∧ e ≠ hx ∧ s₁.heap.get? C = some (excClassObj nm q C N bs bm hdct sn sub ab col dd k0 k1 k2 k3 k5 newId) ∧
      s₁.heap.get? e = some { cls := .ref C, data := .fields #[.ref t, .none, .none, .none, .bool false, .none] } ∧ (∃ oh vh, s₁.heap.get? hx = some oh ∧ oh.data = .fields vh ∧ vh[2]? = some .none) ∧
      ∀ h', (∀ b, b ≠ e → h'.get? b = s₁.heap.get? b) → (∃ oe vs, h'.get? e = some oe ∧ oe.cls = .ref C ∧ oe.data = .fields vs ∧ vs[1]? = some .none) → E (.ref e) { s₁ with heap := h' }) E s) :
    wpAny (model prog w) A (raiseStmt env (some x) (some c)) Q E s := by
  have hcB : (Value.ref C :: bm).contains (.type "BaseException") = true := by rw [List.contains_cons, hbase, Bool.or_true]
  unfold raiseStmt
  refine wpAny_bind (wpAny_mono h (fun v s₁ h₁ => ?_) fun _ _ x => x)
  obtain ⟨e, t, rfl, hne, hC, he, ⟨oh, vh, g1, g2, g3⟩, hE⟩ := h₁
  have heC : e ≠ C := fun z => by rw [z, hC] at he; injection he with he; cases he
  refine wpAny_bind (wpAny_holding (hc _ _ (wpAny_bind (wpAny_pure ?_))))
  have step : ∀ {ob : Obj} {vs : Array Value} (i : Nat) (v : Value) (hp : Heap), ob.data = .fields vs → i < vs.size → hp.get? e = some ob → ∃ ob' , (hp.update e (Obj.mapFields (·.setIfInBounds i v))).get? e = some ob' ∧ ob'.cls = ob.cls ∧ ob'.data = .fields (vs.setIfInBounds i v) := fun i v hp hd hi hg =>
    ⟨_, Heap.get?_update_self _ hg (Obj.isFreed_of_fields (Obj.data_mapFields hd _)), Obj.cls_mapFields _ _, Obj.data_mapFields hd _⟩
  obtain ⟨hp, g, d, tk, os⟩ := s₁
  dsimp only at hC he g1 hE
  refine wpAny_bind (wpAny_holding ?_)
  unfold excFromValue isExcClass
  repeat (first | with_reducible refine wpAny_loadPart_at he ?_ | with_reducible refine wpAny_loadPart_at hC ?_ | (with_reducible refine wpAny_isSubtype_exc hC ?_; rw [hcB]) | wp_step)
  obtain ⟨ob1, a1, a2, a3⟩ := step 3 Value.none hp rfl (by simp) he
  obtain ⟨ob2, b1, b2, b3⟩ := step 4 (Value.bool true) _ a3 (by simp) a1
  have nh : hx ≠ e := hne.symm
  have g1' : ((hp.update e (Obj.mapFields fun x => x.setIfInBounds 3 Value.none)).update e (Obj.mapFields fun x => x.setIfInBounds 4 (Value.bool true))).get? hx = some oh := by
    rw [Heap.get?_update_other _ _ hne, Heap.get?_update_other _ _ hne]; exact g1
  unfold raiseNew
  refine wpAny_bind (wpAny_handled ?_)
  rw [hh]
  show wpAny _ _ (do if (Value.ref hx != Value.ref e) = true then _ else _) _ _ _
  rw [if_pos (by simp [nh])]
  refine wpAny_bind (wpAny_holding (unchain_none g1' g2 g3 ?_))
  refine wpAny_bind (wpAny_updField b1 b3 (by simp) (wpAny_throw (hE _ (fun b hb => ?_) ?_)))
  · have hb' : e ≠ b := Ne.symm hb
    rw [Heap.get?_update_other _ _ hb', Heap.get?_update_other _ _ hb', Heap.get?_update_other _ _ hb']
  · obtain ⟨ob3, c1, c2, c3⟩ := step 2 (Value.ref hx) _ b3 (by simp) b1
    exact ⟨ob3, _, c1, c2.trans (b2.trans a2), c3, by simp⟩
end
end PySem
namespace PySem
open PySem.Spec PySem.W PyProof.Rows
section
variable {prog : Program} {w : World} {A : Around} {E : Value → Shared → Prop} {s : Shared} {env : Env}
variable {nm q : Str} {C N : Addr} {bs bm bmB : List Value} {hdct : Bool} {sn : List Str} {sub : List Value} {ab : Bool} {col : Option Bool} {dd : Option Addr} {k0 k1 k2 k3 k5 : Option Value} {B newId initId : String}
theorem Raise_call_none (F : ExcBaseFacts B newId initId bmB) {mN : Str → Option Value} {x : Str} {np cpos pos npos : Pos} {kd : Nat} {args : List Expr} {Q : Flow → Shared → Prop} {hx : Addr}
    (hbase : bm.contains (.type "BaseException") = true) (hh : A.handled = some (.ref hx)) (hplain : (backTo cpos (starEach args env)).any (·.1) = false) (hni : mN "__init__" = none)
    (h : wpAny (model prog w) A (eval (.Name x np) env) (fun f s₁ => f = .ref C ∧ wpAny (model prog w) A (evalArgs (.ref C) true (backTo cpos (starEach args env)) [])
      (fun a s₂ => a.kw = [] ∧ a.pos.length ≤ sizeLine ∧ s₂.heap.get? C = some (excClassObj nm q C N bs bm hdct sn sub ab col dd k0 k1 k2 k3 k5 newId) ∧ s₂.heap.Ns N mN ∧ OwnTail s₂.heap bmB bm ∧ (∃ oh vh, s₂.heap.get? hx = some oh ∧ oh.data = .fields vh ∧ vh[2]? = some .none) ∧
        ∀ h1 h' e, Heap.MadeExcOf s₂.heap h1 e (.ref C) a.pos → (∀ b, b ≠ e → h'.get? b = h1.get? b) → (∃ oe vs, h'.get? e = some oe ∧ oe.cls = .ref C ∧ oe.data = .fields vs ∧ vs[1]? = some .none) → E (.ref e) { s₂ with heap := h' }) E s₁) E s) :
    wpAny (model prog w) A (exec (.Raise (some (.Call (.Name x np) args [] cpos)) (some (.Constant .none kd npos)) pos) env) Q E s := by
  rw [arm_exec_Raise]
  simp only [evalOpt, Option.map]
  refine wpAny_bind (wpAny_standAt (raiseStmt_none (C := C) (nm := nm) (q := q) (N := N) (bs := bs) (bm := bm) (hdct := hdct) (sn := sn) (sub := sub) (ab := ab) (col := col) (dd := dd) (k0 := k0) (k1 := k1) (k2 := k2) (k3 := k3) (k5 := k5) (newId := newId) hbase hh (fun s Q hQ => wpAny_bind (wpAny_of_eq (a := Value.none) rfl (wpAny_bind (wpAny_standAt (wpAny_pure hQ))))) (wpAny_bind (wpAny_mono (wpAny_Call_ofName (wpAny_mono h (fun f s₁ h₁ => ?_) fun _ _ x => x)) (fun v s₃ h₃ => wpAny_bind (wpAny_standAt (wpAny_pure h₃))) fun _ _ x => x))))
  obtain ⟨rfl, h₁⟩ := h₁
  unfold callWith
  refine wpAny_bind (wpAny_holding (wpAny_mono h₁ (fun a s₂ h₂ => wpAny_bind (wpAny_standAt ?_)) fun _ _ x => x))
  obtain ⟨apos, akw⟩ := a
  obtain ⟨hkw, hlen, hC, hn, T, ⟨oh, vh, g1, g2, g3⟩, h₂⟩ := h₂
  obtain rfl : akw = [] := hkw
  obtain ⟨hp, g, d, tk, os⟩ := s₂
  simp only [hplain]
  refine wpAny_bind (wpAny_keeperOf_exc hC ?_)
  refine wpAny_bind (wpAny_call_exc_subT (hrest := hlen) F T hC hn hni fun h' e hm => wpAny_bind (wpAny_holding (wpAny_point (wpAny_pure ?_))))
  obtain ⟨t, ht, _, _⟩ := hm.there
  exact ⟨e, t, rfl, fun z => (by rw [← z, hm.new] at g1; cases g1), hm.keeps _ _ hC, ht, ⟨oh, vh, hm.keeps _ _ g1, g2, g3⟩, fun h'' hb he => h₂ h' h'' e hm hb he⟩
end
end PySem
namespace L2
open PySem PySem.W PySem.Spec PyProof.Rows
/-- an exception in hand that has no context -/
def ExcN (x C : Addr) (h : Heap) : Prop := ∃ oe vs, h.get? x = some oe ∧ oe.cls = .ref C ∧ oe.data = .fields vs ∧ vs[2]? = some .none
theorem Inv.trackN {X : Cx} {pins : List (Addr × Obj)} {σ : St} {H : Hp} {s : Shared} {x C : Addr} (I : Inv X pins σ H s) (hx : H x = none) (h0 : X.s₀.heap.get? x = none ∧ x ≠ X.env.locals ∧ (∀ y c, X.env.cells.lookup y = some c → c ≠ x) ∧ ∀ p ∈ X.pn ++ pins, p.1 ≠ x) (p : ExcN x C s.heap) : Inv X pins σ (upd H x (.ext (ExcN x C))) s := by
  have ne : ∀ b u, H b = some u → b ≠ x := fun b u e => ne_of_none e hx
  refine I.step2 (g' := s.gens) (t' := s.toks) (d' := s.drawn) (h' := s.heap) (ch := [x]) (fun b hb => ?_) (fun b o _ _ _ e _ => e) (fun b o _ _ _ e _ => ⟨o.slots, e⟩) (fun b o hb _ n => ?_) (fun b o _ e => ⟨o, e⟩) (fun b xs e => ?_) (fun b o u e => ?_) (fun b ps e => ⟨#[], ?_⟩) (fun m hm => hm) (fun b u e => ?_) I.bare
  · rw [List.mem_singleton.mp hb]; exact ⟨.inr h0.1, h0.2⟩
  · rw [upd_ne (by simpa using hb)]; exact n
  · rw [upd_ne (ne b _ e)]; exact e
  · rw [upd_ne (ne b _ e)]; exact e
  · rw [upd_ne (ne b _ e), e]; simp
  · by_cases hb : b = x
    · subst hb
      rw [upd_same] at e
      cases e
      obtain ⟨o, vs, h1, h2, h3⟩ := p
      exact ⟨⟨o, vs, h1, h2, h3⟩, ⟨o, h1⟩, fun h1 h2 ⟨o, vs, q1, q2⟩ k => ⟨o, vs, k o q1, q2⟩⟩
    · rw [upd_ne hb] at e
      exact (I.hok b u e).stay (fun _ _ _ q => q) (fun c q => by rw [upd_ne (ne c _ q)]; exact q) fun c xs q => by rw [upd_ne (ne c _ q)]; exact q
section
variable {P : Program} {w : World} {K : Frag} {mg : Str → Option Value} {base : Heap} {N : List Str} {qual : Str} {scope : Scope} {f : Addr} {cdv : Value} {A : Around} {outer : List Env} {s₀ : Shared} {H₀ : Hp} {E : XK}
/-- try: a call; except D: raise B(..) from None -/
theorem ps_tryR {st : Stmt} {t : XK → TS} {c bn : Str} {Dc B : Addr} {e₀ : Expr} {rest : List Expr} {ta : TA} {np bp cpos npos rpos hpos pos : Pos} {kd : Nat} (hb : PXS (cx1 P w K mg base N qual scope f cdv A outer s₀ H₀ E) st t) (hg : Gl (cx1 P w K mg base N qual scope f cdv A outer s₀ H₀ E) c) (hm : mg c = some (.ref Dc)) (hgB : Gl (cx1 P w K mg base N qual scope f cdv A outer s₀ H₀ E) bn) (hmB : mg bn = some (.ref B)) (hq : excIn K B bmV "ValueError.__new__" = true)
    (ha : ∀ x, PA ((cx1 P w K mg base N qual scope f cdv A outer s₀ H₀ E).inEx x) (e₀ :: rest) ta) (hd : (c == ("__debug__" : Str)) = false := by decide) (hdB : (bn == ("__debug__" : Str)) = false := by decide)
    (he : starEach (e₀ :: rest) (cx1 P w K mg base N qual scope f cdv A outer s₀ H₀ E).env = (false, eval e₀ (cx1 P w K mg base N qual scope f cdv A outer s₀ H₀ E).env) :: starEach rest (cx1 P w K mg base N qual scope f cdv A outer s₀ H₀ E).env := by rfl)
    (hpl : (backTo cpos (starEach rest (cx1 P w K mg base N qual scope f cdv A outer s₀ H₀ E).env)).any (·.1) = false := by rfl) :
    PS (cx1 P w K mg base N qual scope f cdv A outer s₀ H₀ E) (.Try [st] [.ExceptHandler (some (.Name c np)) none [.Raise (some (.Call (.Name bn bp) (e₀ :: rest) [] cpos)) (some (.Constant .none kd npos)) rpos] hpos] [] [] pos)
      (fun D σ H => t (fun cls o H' => o = none ∧ ∃ C, cls = .ref C ∧ Caught K C Dc ∧ ∀ x, H' x = none → ta σ (upd H' x (.ext (ExcN x C))) fun vs H1 => vs.length ≤ sizeLine ∧ H1 x = some (.ext (ExcN x C)) ∧ E (.ref B) (some x) H1) D σ H) := by
  intro pins s σ H D I h
  refine wpAny_Try_except (wpAny_execs_cons (wpAny_mono (hb pins s σ H D _ I h) (fun fl s1 q => ?_) fun ex s1 q => ?_))
  · cases fl with
    | next => exact wpAny_execs_nil (wpAny_execs_nil q)
    | ret v => exact q
    | brk => exact q
    | cont => exact q
  · obtain ⟨x, cls, o, H', h₀, rfl, J, fl, hold, hnew, rfl, C, rfl, hC, q⟩ := q
    refine note_at J rfl rfl fl hold hnew fun h4 J4 F4 n4 _ => ?_
    refine flight_at (fo := none) J4 F4 hold n4 fun h5 J5 F5 hnew5 _ => ?_
    refine wpAny_handleBy_cons (codeAny_handlers_test ?_) (by intro q; cases q)
    refine ld_glob (X := (cx1 P w K mg base N qual scope f cdv A outer s₀ H₀ E).inEx x) (J5.inEx x) hg hm ?_ hd
    refine excMatch_own (K := K) (s := { s1 with heap := h5 }) J5.kIn F5.exAt hC ?_
    refine codeAny_handlers_suite ?_
    refine flight_at (fo := none) (s := { s1 with heap := h5 }) J5 F5 hold hnew5 fun h7 J7 F7 n7 _ => ?_
    obtain ⟨bm, Na, nm, q', bs, hdct, sn, sub, ab, col, dd, k0, k1, k2, k3, k5, mN, hCo, hN, hni, T⟩ := exc_obj I.ok.mod.kin hq
    have FB := PySem.F.excBase_ValueError
    refine wpAny_execs_cons (Raise_call_none (C := B) (nm := nm) (q := q') (N := Na) (bs := bs) (bm := bm) (hdct := hdct) (sn := sn) (sub := sub) (ab := ab) (col := col) (dd := dd) (k0 := k0) (k1 := k1) (k2 := k2) (k3 := k3) (k5 := k5)
      FB (mN := mN) (hx := x) (T.hasType FB.hasBase) rfl (by rw [he]; show (false || (backTo cpos (starEach rest _)).any (·.1)) = false; rw [hpl]; rfl) hni (ld_glob (X := (cx1 P w K mg base N qual scope f cdv A outer s₀ H₀ E).inEx x) (J7.inEx x) hgB hmB ⟨rfl, ?_⟩ hdB))
    have xN : ExcN x C h7 := by
      obtain ⟨_, _, oe, vs, T', oT, ts, g1, g2, g3, g5, gc, _⟩ := id F7
      exact ⟨oe, vs, g1, g2, g3, gc rfl⟩
    have J8 := J7.trackN F7.1 (hold x F7.2.1) xN
    have ha' := ha x cpos pins { s1 with heap := h7 } σ _ _ (J8.inEx x) (q x fl.1)
    rw [he] at ha' ⊢
    refine Calls.evalArgs_plain (wpAny_mono ha' (fun us s₂ h₂ => ?_) fun _ _ y => y.elim)
    obtain ⟨vs, H1, I2x, r, hl, hx1, hE⟩ := h₂
    have I2 : Inv (cx1 P w K mg base N qual scope f cdv A outer s₀ H₀ E) pins σ H1 s₂ := I2x.outEx I.ok
    have xN2 : ExcN x C s₂.heap := (I2.hok x _ hx1).1
    obtain ⟨oh, vh, y1, y2, y3, y4⟩ := xN2
    refine ⟨rfl, by rw [← r.length]; exact hl, I2.bk _ _ hCo, hN.keeps I2.bk, T.keeps I2.bk, ⟨oh, vh, y1, y3, y4⟩, fun h1 h' e m hb ⟨oe, vse, z1, z2, z3, z4⟩ => ?_⟩
    have I3 := I2.kept (t' := s₂.toks) m.keeps
    obtain ⟨te, m1, _, _⟩ := m.there
    have nm : ∀ b, b ∉ [e] → b ≠ e := fun b hb z => hb (by rw [z]; simp)
    obtain ⟨J9, _⟩ := fly_left (s := { s₂ with heap := h1 }) (h' := h') (h₀ := s₂.heap) (ch := [e]) I3 (I2.held rfl) (fun b hb => by
      rw [List.mem_singleton.mp hb]
      exact ⟨I2.hok.none m.new, m.new, fun ob q => by rw [show h1.get? e = _ from m1] at q; injection q with q; subst q; exact ⟨_, rfl⟩⟩)
      (fun b ob hn q => ⟨ob.slots, (hb b (nm b hn)).trans q⟩) (fun b ob hn _ q => (hb b (nm b hn)).trans q)
    refine note_new (X := cx1 P w K mg base N qual scope f cdv A outer s₀ H₀ E) (s := { s₂ with heap := h' }) (h₀ := s₂.heap) (o := some x) (cls := .ref B) J9 rfl rfl ⟨I2.hok.none m.new, m.new, oe, vse, z1, z2, z3, z4, fun z => by cases z⟩ (I2.held rfl) (fun b hn => ?_) (fun h8 J8' F8 n8 _ => ?_) rfl
    · by_cases z : b = e
      · rw [z]; exact m.new
      · cases q : s₂.heap.get? b with
        | none => rfl
        | some ob => exact absurd ((hb b z).trans (m.keeps b ob q)) (by rw [show h'.get? b = none from hn]; simp)
    · obtain ⟨_, _, oe8, vs8, T8, oT8, ts8, w1, w2, w3, w5, _⟩ := id F8
      show cameBackBy _ _ _ _ (.ref e) _
      unfold cameBackBy
      refine wpAny_bind (wpAny_field (s := { s₂ with heap := h8 }) w1 w3 w5 ?_)
      rw [if_neg (show ¬ (Value.ref T8 == Value.none) = true from by simp)]
      exact flight_at (s := { s₂ with heap := h8 }) J8' F8 (I2.held rfl) n8 fun h9 J9' F9 n9 _ => xout1 pins σ H1 _ e _ _ _ _ J9' F9 (I2.held rfl) n9 hE
end
end L2
namespace L2
open PySem PySem.Spec PyProof.Rows

/-! ### lists of pairs as tables -/
section
variable {κ : Type} [DecidableEq κ]
def valV (kvs : List (κ × V)) (k : κ) : Option V := (kvs.find? fun kv => decide (kv.1 = k)).map (·.2)
/-- in its place, or at the end -/
def putK (kvs : List (κ × V)) (k : κ) (v : V) : List (κ × V) :=
  if (kvs.any fun kv => decide (kv.1 = k)) = true then kvs.map (fun kv => if kv.1 = k then (kv.1, v) else kv) else kvs ++ [(k, v)]
def dropK (kvs : List (κ × V)) (k : κ) : List (κ × V) := kvs.filter fun kv => decide (kv.1 ≠ k)

theorem valV_pos {p : κ × V} {r : List (κ × V)} {k : κ} (e : p.1 = k) : valV (p :: r) k = some p.2 := by simp [valV, List.find?_cons, e]
theorem valV_neg {p : κ × V} {r : List (κ × V)} {k : κ} (e : ¬ p.1 = k) : valV (p :: r) k = valV r k := by simp [valV, List.find?_cons, e]
theorem valV_any (k : κ) : ∀ kvs : List (κ × V), (kvs.any fun kv => decide (kv.1 = k)) = (valV kvs k).isSome
  | [] => rfl
  | p :: r => by
    rw [List.any_cons]
    by_cases e : p.1 = k
    · simp only [valV_pos e, decide_eq_true e, Bool.true_or, Option.isSome_some]
    · rw [valV_neg e, decide_eq_false e, Bool.false_or]; exact valV_any k r
theorem valV_map (k j : κ) (y : V) : ∀ kvs : List (κ × V), valV (kvs.map fun kv => if kv.1 = k then (kv.1, y) else kv) j = (valV kvs j).map fun x => if j = k then y else x
  | [] => rfl
  | p :: r => by
    have ih := valV_map k j y r
    rw [List.map_cons]
    by_cases h : p.1 = k
    · rw [if_pos h]
      by_cases e : p.1 = j
      · rw [valV_pos (p := (p.1, y)) e, valV_pos e, Option.map_some, if_pos (e.symm.trans h)]
      · rw [valV_neg (p := (p.1, y)) e, valV_neg e, ih]
    · rw [if_neg h]
      by_cases e : p.1 = j
      · rw [valV_pos (p := p) e, valV_pos e, Option.map_some, if_neg (fun z => h (e.trans z))]
      · rw [valV_neg (p := p) e, valV_neg e, ih]
theorem valV_snoc (k j : κ) (y : V) : ∀ kvs : List (κ × V), valV kvs k = none → valV (kvs ++ [(k, y)]) j = if j = k then some y else valV kvs j
  | [], _ => by
    by_cases e : k = j
    · rw [if_pos e.symm]; exact valV_pos (p := (k, y)) e
    · rw [if_neg (fun z => e z.symm)]; exact valV_neg (p := (k, y)) e
  | p :: r, hn => by
    rw [List.cons_append]
    have hk : ¬ p.1 = k := fun z => by rw [valV_pos z] at hn; cases hn
    rw [valV_neg hk] at hn
    have ih := valV_snoc k j y r hn
    by_cases e : p.1 = j
    · rw [valV_pos e, valV_pos e, if_neg (fun z => hk (e.trans z))]
    · rw [valV_neg e, valV_neg e, ih]
theorem valV_put (kvs : List (κ × V)) (k j : κ) (y : V) : valV (putK kvs k y) j = if j = k then some y else valV kvs j := by
  unfold putK
  by_cases a : (kvs.any fun kv => decide (kv.1 = k)) = true
  · rw [if_pos a, valV_map]
    rw [valV_any] at a
    by_cases e : j = k
    · obtain ⟨x, hx⟩ := Option.isSome_iff_exists.mp a
      rw [if_pos e, e, hx, Option.map_some, if_pos rfl]
    · rw [if_neg e]
      cases valV kvs j with
      | none => rfl
      | some x => rw [Option.map_some, if_neg e]
  · rw [if_neg a]
    refine valV_snoc k j y kvs ?_
    rw [valV_any] at a
    cases q : valV kvs k with
    | none => rfl
    | some x => rw [q] at a; exact (a rfl).elim
theorem length_putK (kvs : List (κ × V)) (k : κ) (v : V) : (putK kvs k v).length ≤ kvs.length + 1 := by
  unfold putK
  split
  · rw [List.length_map]; omega
  · rw [List.length_append, List.length_cons, List.length_nil]; omega

theorem RelO.isSome_eq {o : Option V} {u : Option Value} (r : RelO o u) : o.isSome = u.isSome := by
  cases o with
  | none => cases u with
    | none => rfl
    | some _ => exact (show False from r).elim
  | some _ => cases u with
    | none => exact (show False from r).elim
    | some _ => rfl

theorem KV.any {kvs : List (κ × V)} {vs : List (κ × Value)} (r : KV kvs vs) (k : κ) : (kvs.any fun kv => decide (kv.1 = k)) = vs.any fun kv => decide (kv.1 = k) := by
  unfold KV at r
  induction r with
  | nil => rfl
  | cons h t ih => rw [List.any_cons, List.any_cons, ih, h.1]
theorem KV.repl {kvs : List (κ × V)} {vs : List (κ × Value)} (r : KV kvs vs) (k : κ) {y : V} {u : Value} (ry : RelV y u) :
    KV (kvs.map fun kv => if kv.1 = k then (kv.1, y) else kv) (vs.map fun kv => if kv.1 = k then (kv.1, u) else kv) := by
  unfold KV at r ⊢
  induction r with
  | nil => exact .nil
  | @cons p q ps qs h t ih =>
    rw [List.map_cons, List.map_cons]
    refine .cons ?_ ih
    obtain ⟨h1, h2⟩ := h
    by_cases e : p.1 = k
    · rw [if_pos e, if_pos (h1.symm.trans e)]; exact ⟨h1, ry⟩
    · rw [if_neg e, if_neg (fun z => e (h1.trans z))]; exact ⟨h1, h2⟩
theorem KV.put {kvs : List (κ × V)} {vs : List (κ × Value)} (r : KV kvs vs) (k : κ) {y : V} {u : Value} (ry : RelV y u) : KV (putK kvs k y) (stored vs k u) := by
  unfold putK stored
  rw [r.any k]
  by_cases e : (vs.any fun kv => decide (kv.1 = k)) = true
  · rw [if_pos e, if_pos e]; exact r.repl k ry
  · rw [if_neg e, if_neg e]; exact Paired.snoc r ⟨rfl, ry⟩
theorem KV.length {kvs : List (κ × V)} {vs : List (κ × Value)} (r : KV kvs vs) : kvs.length = vs.length := Paired.length r
end


/-! ### a tracked dict, its keys ints and texts or tuples of these -/
theorem kV_is {P : Program} {w : World} {k : Key} {u : Value} (r : RelV (kV k) u) : (mixKind P w).is k u = true := by
  cases k with
  | inl i => obtain ⟨t, e⟩ := (show ∃ t, u = Value.int i t from r); subst e; exact mixKind_int P w i t
  | inr x => obtain ⟨t, e⟩ := (show ∃ t, u = Value.str x t from r); subst e; exact mixKind_str P w x t
theorem items_are {P : Program} {w : World} : ∀ {ks : List Key} {us : List Value}, Vals (ks.map kV) us → ItemsAre (mixKind P w) ks us
  | [], _, r => by rw [List.map_nil] at r; cases r; exact .nil
  | k :: ks, _, r => by
    rw [List.map_cons] at r
    cases r with
    | cons h t => exact .cons (kV_is h) (items_are t)

/-- raw entries of a dict with tuple keys -/
abbrev KT (H : Hp) : List (List Key × V) → List (List Key × Addr × Value) → Prop := Paired fun p q => p.1 = q.1 ∧ H q.2.1 = some (.tup (p.1.map kV)) ∧ RelV p.2 q.2.2
theorem KT.val {H : Hp} {kvs : List (List Key × V)} {xs : List (List Key × Addr × Value)} (r : KT H kvs xs) (k : List Key) : RelO (valV kvs k) ((atKey xs k).map (·.2)) := by
  induction r with
  | nil => exact True.intro
  | @cons p q ps qs h t ih =>
    obtain ⟨h1, _, h2⟩ := h
    by_cases e : p.1 = k
    · have e' : q.1 = k := h1.symm.trans e
      have b : atKey (q :: qs) k = some q.2 := by simp [atKey, List.find?_cons, e']
      rw [valV_pos e, b]; exact h2
    · have e' : ¬ q.1 = k := fun z => e (h1.trans z)
      have b : atKey (q :: qs) k = atKey qs k := by simp [atKey, List.find?_cons, e']
      rw [valV_neg e, b]; exact ih
theorem KT.repl {H : Hp} {kvs : List (List Key × V)} {xs : List (List Key × Addr × Value)} (r : KT H kvs xs) (k : List Key) {y : V} {u : Value} (ry : RelV y u) :
    KT H (kvs.map fun kv => if kv.1 = k then (kv.1, y) else kv) (xs.map (putAt k u)) := by
  induction r with
  | nil => exact .nil
  | @cons p q ps qs h t ih =>
    rw [List.map_cons, List.map_cons]
    refine .cons ?_ ih
    obtain ⟨h1, h2, h3⟩ := h
    unfold putAt
    by_cases e : p.1 = k
    · rw [if_pos e, if_pos (h1.symm.trans e)]; exact ⟨h1, h2, ry⟩
    · rw [if_neg e, if_neg (fun z => e (h1.trans z))]; exact ⟨h1, h2, h3⟩
theorem KT.put {H : Hp} {kvs : List (List Key × V)} {xs : List (List Key × Addr × Value)} (r : KT H kvs xs) (k : List Key) {b : Addr} {y : V} {u : Value} (hb : H b = some (.tup (k.map kV))) (ry : RelV y u) :
    KT H (putK kvs k y) (storedH xs k b u) := by
  have e : (kvs.any fun kv => decide (kv.1 = k)) = (atKey xs k).isSome := by
    rw [valV_any, (r.val k).isSome_eq, Option.isSome_map]
  unfold putK storedH
  rw [e]
  by_cases q : (atKey xs k).isSome = true
  · rw [if_pos q, if_pos q]; exact r.repl k ry
  · rw [if_neg q, if_neg q]; exact Paired.snoc r ⟨rfl, hb, ry⟩
theorem KT.keeps {H H' : Hp} {kvs : List (List Key × V)} {xs : List (List Key × Addr × Value)} (r : KT H kvs xs) (ht : ∀ b ys, H b = some (.tup ys) → H' b = some (.tup ys)) : KT H' kvs xs :=
  Paired.mapP r fun _ _ z => ⟨z.1, ht _ _ z.2.1, z.2.2⟩

section
variable {P : Program} {w : World} {H : Hp} {h : Heap} {a : Addr}
theorem rd_of {u : HO} (ok : HOk P w H h) (e : Rd H a u) : ObjOk P w H h a u := e.ok ok
theorem dk_rd {kvs : List (Key × V)} (ok : HOk P w H h) (e : Rd H a (.dK kvs)) : kvs.length ≤ sizeLine ∧ (a == sysModules) = false ∧ ∃ vs, KV kvs vs ∧ h.DictOf (mixKind P w) a vs :=
  show ObjOk P w H h a (.dK kvs) from rd_of ok e
theorem dk_of {kvs : List (Key × V)} (ok : HOk P w H h) (e : H a = some (.dK kvs)) : kvs.length ≤ sizeLine ∧ (a == sysModules) = false ∧ ∃ vs, KV kvs vs ∧ h.DictOf (mixKind P w) a vs := dk_rd ok (.inl e)
/-- a tracked tuple of ints and texts is a key -/
theorem key_of {ks : List Key} (ok : HOk P w H h) (e : H a = some (.tup (ks.map kV))) : (tupleKind (mixKind P w)).is h ks a := by
  obtain ⟨_, its, r, o, h1, h2, n, h3⟩ := (show ObjOk P w H h a (.tup (ks.map kV)) from ok a _ e)
  exact ⟨o, its.toArray, n, h1, h2, h3, by simpa using items_are r⟩
theorem dt_rd {kvs : List (List Key × V)} (ok : HOk P w H h) (e : Rd H a (.dT kvs)) : kvs.length ≤ sizeLine ∧ (a == sysModules) = false ∧
    ∃ xs, KT H kvs xs ∧ h.DictOfH (tupleKind (mixKind P w)) a xs := by
  obtain ⟨z, y, xs, r, o, es, ep, h1, h2, h3, h4, h5⟩ := (show ObjOk P w H h a (.dT kvs) from rd_of ok e)
  refine ⟨z, y, xs, r, o, es, ep, h1, h2, h3, h4, fun x hx => ?_, h5⟩
  have all : ∀ {l : List (List Key × V)} {m : List (List Key × Addr × Value)}, KT H l m → ∀ x ∈ m, (tupleKind (mixKind P w)).is h x.1 x.2.1 := by
    intro l m q
    induction q with
    | nil => intro x hx; exact nomatch hx
    | @cons p q ps qs hq t ih =>
      intro x hx
      rcases List.mem_cons.mp hx with e | hx
      · subst e
        exact key_of ok (by rw [← hq.1]; exact hq.2.1)
      · exact ih x hx
  exact all r x hx
theorem dt_of {kvs : List (List Key × V)} (ok : HOk P w H h) (e : H a = some (.dT kvs)) : kvs.length ≤ sizeLine ∧ (a == sysModules) = false ∧
    ∃ xs, KT H kvs xs ∧ h.DictOfH (tupleKind (mixKind P w)) a xs := dt_rd ok (.inl e)
end

/-- what the dict at a holds at the key y -/
def DGet (H : Hp) (a : Addr) (y : V) (r : Option V) : Prop :=
  (∃ kvs k, Rd H a (.dK kvs) ∧ y = kV k ∧ r = valV kvs k) ∨ ∃ kvs k b, Rd H a (.dT kvs) ∧ y = .ref b ∧ H b = some (.tup (k.map kV)) ∧ r = valV kvs k
/-- the heap behind a[y] = v -/
def DPut (H : Hp) (a : Addr) (y v : V) (H' : Hp) : Prop :=
  (∃ kvs k, H a = some (.dK kvs) ∧ y = kV k ∧ kvs.length < sizeLine ∧ H' = upd H a (.dK (putK kvs k v))) ∨
  ∃ kvs k b, H a = some (.dT kvs) ∧ y = .ref b ∧ H b = some (.tup (k.map kV)) ∧ kvs.length < sizeLine ∧ H' = upd H a (.dT (putK kvs k v))
theorem DPut.k {H : Hp} {a : Addr} {kvs : List (Key × V)} {k : Key} {v : V} (e : H a = some (.dK kvs)) (hl : kvs.length < sizeLine) : DPut H a (kV k) v (upd H a (.dK (putK kvs k v))) := .inl ⟨kvs, k, e, rfl, hl, rfl⟩


section
variable {X : Cx} {pins : List (Addr × Obj)} {σ : St} {H : Hp} {s : Shared} {a : Addr} {y v : V} {u r : Value} {o : Option V} {A : Around} {E : Value → Shared → Prop}

theorem Inv.big (I : Inv X pins σ H s) : sysModules < s.heap.objs.size := by
  have h : mainGlobals < s.heap.objs.size := (I.mod.glob.keeps I.bk).lt
  exact Nat.lt_trans (by decide) h

/-- a dict's object is replaced -/
theorem d_write {h' : Heap} {t' : Nat} {ob : HO} (I : Inv X pins σ H s) (mu : Mut (H a)) (hs : Heap.SameBut a s.heap h') (he : ∃ q, h'.get? a = some q) (new : ObjOk X.prog X.w (upd H a ob) h' a ob) :
    Inv X pins σ (upd H a ob) { s with heap := h', toks := t' } :=
  I.write (x := a) (e := a) mu (.inl rfl) (fun b q hb z => (hs.2 b hb).trans z) he new
theorem dk_new {P : Program} {w : World} {H' : Hp} {h' : Heap} {kvs : List (Key × V)} {vs : List (Key × Value)} (z : kvs.length ≤ sizeLine) (hd : (a == sysModules) = false) (rel : KV kvs vs) (dd : h'.DictOf (mixKind P w) a vs) :
    ObjOk P w H' h' a (.dK kvs) := ⟨z, hd, vs, rel, dd⟩
/-- d[y] = v -/
theorem d_setItem {H' : Hp} {Q : Unit → Shared → Prop} (hu : A.units + 1 < cLine) (I : Inv X pins σ H s) (g : DPut H a y v H') (ry : RelV y u) (rv : RelV v r) (h : ∀ s', Inv X pins σ H' s' → Q () s') :
    wpAny (model X.prog X.w) A (setItem (.ref a) u r) Q E s := by
  rcases g with ⟨kvs, k, e, ey, l, eH⟩ | ⟨kvs, k, b, e, ey, eb, l, eH⟩
  · subst ey eH
    obtain ⟨z, hd, vs, rel, dd⟩ := dk_of I.hok e
    have hz : vs.length ≤ sizeLine := by rw [← rel.length]; exact z
    have hl : (putK kvs k v).length ≤ sizeLine := by have := length_putK kvs k v; omega
    refine wpAny_setItem_pairs (hsz := hz) (kV_is ry) dd fun h' dd' hs => h _ ?_
    have he : ∃ q, h'.get? a = some q := let ⟨q, _, _, hq, _⟩ := dd'; ⟨q, hq⟩
    exact d_write I (by rw [e]; exact True.intro) hs he (dk_new hl hd (rel.put k rv) dd')
  · subst ey eH
    cases (show u = Value.ref b from ry)
    obtain ⟨z, hd, xs, rel, dd⟩ := dt_of I.hok e
    have hz : xs.length ≤ sizeLine := by rw [← Paired.length rel]; exact z
    have hl : (putK kvs k v).length ≤ sizeLine := by have := length_putK kvs k v; omega
    refine wpAny_setItem_heap (hsz := hz) (tupleKind_room_in1 hu) (key_of I.hok eb) dd fun h' dd' hs => h _ ?_
    obtain ⟨q, es, ep, hq, h2, h3, h4, _, h5⟩ := dd'
    refine d_write I (by rw [e]; exact True.intro) hs ⟨q, hq⟩ ⟨hl, hd, _, (rel.put k eb rv).keeps fun c ys ec => ?_, q, es, ep, hq, h2, h3, h4, h5⟩
    rw [upd_ne (ne_of ec e (fun z => nomatch z))]
    exact ec
end

section
variable {X : Cx} {pins : List (Addr × Obj)} {σ : St} {H : Hp} {s : Shared} {a : Addr} {kvs : List (Key × V)} {k : Key} {u : Value} {A : Around} {E : Value → Shared → Prop}
/-- len(d) -/
theorem d_len {Q : Value → Shared → Prop} (I : Inv X pins σ H s) (e : Rd H a (.dK kvs)) (h : ∀ t s', Inv X pins σ H s' → Q (.int kvs.length t) s') : wpAny (model X.prog X.w) A (call (.builtin "len") [.ref a]) Q E s := by
  obtain ⟨z, hd, vs, rel, dd⟩ := dk_rd I.hok e
  refine call_len_dict hd dd (by rw [← rel.length]; rw [sizeLine_eq] at z; omega) ?_
  rw [← rel.length]
  exact h _ _ (I.tok _)
end


/-! ### readings and rules -/
/-- the element of a subscription, not a slice -/
def NoSl (i : Expr) : Prop := ∀ ov iv, subscripted i false ov iv = operate [ov, iv] (getItem ov iv)


/-- d[y] -/
def tDGet (td ty : TE) : TE := fun σ H Q => td σ H fun x H1 => ty σ H1 fun y H2 => ∃ a v, x = .ref a ∧ DGet H2 a y (some v) ∧ Q v H2
/-- y in d, y not in d -/
def tDIn (ty td : TE) : TE := fun σ H Q => ty σ H fun y H1 => td σ H1 fun x H2 => ∃ a o, x = .ref a ∧ DGet H2 a y o ∧ Q (.bl o.isSome) H2
def tDNotIn (ty td : TE) : TE := fun σ H Q => ty σ H fun y H1 => td σ H1 fun x H2 => ∃ a o, x = .ref a ∧ DGet H2 a y o ∧ Q (.bl (!o.isSome)) H2
/-- d[y] = v -/
def sDPut (td ty tv : TE) : TS := fun D σ H => tv σ H fun v H1 => td σ H1 fun x H2 => ty σ H2 fun y H3 => ∃ a H4, x = .ref a ∧ DPut H3 a y v H4 ∧ D.nx σ H4
/-- d[y] op= v -/
def sDAug (td ty tv : TE) (rd : V → V → Hp → VK → Prop) : TS := fun D σ H => td σ H fun x H1 => ty σ H1 fun y H2 => ∃ a v, x = .ref a ∧ DGet H2 a y (some v) ∧
  tv σ H2 fun y2 H3 => rd v y2 H3 fun z H4 => ∃ H5, DPut H4 a y z H5 ∧ D.nx σ H5
/-- del d[y] -/
def sDDel (td ty : TE) : TS := fun D σ H => td σ H fun x H1 => ty σ H1 fun y H2 => ∃ a kvs k, x = .ref a ∧ H2 a = some (.dK kvs) ∧ y = kV k ∧ (valV kvs k).isSome = true ∧ D.nx σ (upd H2 a (.dK (dropK kvs k)))

section
variable {X : Cx} {o i e value : Expr} {pos pos' tpos : Pos} {td ty tv : TE}
theorem ps_dput (hu : X.A.units + 1 < cLine) (ho : PE X o td) (hi : PE X i ty) (hv : PE X value tv) (hs : swapsWith value (some (.Subscript o i pos')) pos.line X.env = pure false) :
    PS X (.Assign [.Subscript o i pos'] value pos) (sDPut td ty tv) := by
  intro pins s σ H D I h
  refine wpAny_Assign_Subscript (thn (hv pins s σ H _ I h) fun r s1 ⟨v, H1, I1, rv, q1⟩ => thn (ho pins s1 σ H1 _ I1 q1) fun u s2 ⟨x, H2, I2, rx, q2⟩ => thn (hi pins s2 σ H2 _ I2 q2) fun iv s3 ⟨y, H3, I3, ry, a, H4, ex, g, q3⟩ => ?_) hs
  subst ex
  obtain rfl : u = Value.ref a := rx
  exact d_setItem hu I3 g ry rv fun s4 I4 => ⟨σ, H4, I4, q3⟩
end


/-! ### displays -/
theorem dk_empty {P : Program} {w : World} {H : Hp} (h : Heap) (hb : sysModules < h.objs.size) : ObjOk P w H (h.push { cls := .type "dict", data := .dict #[] }) h.objs.size (.dK []) :=
  ⟨Nat.zero_le _, beq_eq_false_iff_ne.mpr (Ne.symm (Nat.ne_of_lt hb)), [], .nil, Heap.DictOf.new h⟩
/-- {}, to be a dict of the kind that is wanted -/
def tDNewK : TE := fun _ H Q => ∀ p, H p = none → Q (.ref p) (upd H p (.dK []))
def tDNewT : TE := fun _ H Q => ∀ p, H p = none → Q (.ref p) (upd H p (.dT []))
section
variable {X : Cx} {pos : Pos}
theorem pe_dnewK : PE X (.Dict [] [] pos) tDNewK := fun pins s σ H Q I h =>
  wpAny_Dict_empty ⟨.ref s.heap.objs.size, _, I.laid (a := s.heap.objs.size) (o := .dK []) (t' := s.toks) (fun _ _ q => Heap.get?_push_of_some _ q) (Nat.le_refl _) (dk_empty s.heap I.big), rfl, h _ (I.hok.fresh (Nat.le_refl _))⟩
end

/-- the pairs of a display, from the left -/
def tPairs : List (TE × TE) → St → Hp → (List (V × V) → Hp → Prop) → Prop
  | [], _, H, Q => Q [] H
  | (tk, tv) :: r, σ, H, Q => tk σ H fun x H1 => tv σ H1 fun y H2 => tPairs r σ H2 fun ps H3 => Q ((x, y) :: ps) H3
abbrev VV : List (V × V) → List (Value × Value) → Prop := Paired fun p q => RelV p.1 q.1 ∧ RelV p.2 q.2
def PPs (X : Cx) (pos : Pos) (keys : List (Option Expr)) (values : List Expr) (trs : List (TE × TE)) : Prop :=
  ∀ (pins : List (Addr × Obj)) (s : Shared) (σ : St) (H : Hp) (Q : List (V × V) → Hp → Prop), Inv X pins σ H s → tPairs trs σ H Q →
    wpAny (model X.prog X.w) X.A (evalPairs (pairTrees keys values X.env pos)) (fun vs s' => ∃ ps H', Inv X pins σ H' s' ∧ VV ps vs ∧ Q ps H') X.xe s

def mergeK (kvs more : List (Key × V)) : List (Key × V) := more.foldl (fun acc kv => putK acc kv.1 kv.2) kvs
/-- {k: v, ..} with keys ints and texts; the new dict stands empty while the pairs are made -/
def tDisp (trs : List (TE × TE)) : TE := fun σ H Q => ∀ p, H p = none → tPairs trs σ (upd H p (.dK [])) fun ps H2 => H2 p = some (.dK []) ∧ ∃ kvs : List (Key × V), ps = kvs.map (fun kv => (kV kv.1, kv.2)) ∧ kvs.length ≤ 15 ∧ Q (.ref p) (upd H2 p (.dK (mergeK [] kvs)))


/-! ### methods -/
/-- a method call o.m(e) of a built-in, with one argument: what must be seen of the text -/
structure M1 (X : Cx) (o : Expr) (m : Str) (apos : Pos) (e : Expr) (cpos : Pos) : Prop where
  base : attributeBase o m X.env (eval o X.env) = eval o X.env
  few : ((backTo cpos (starEach [e] X.env)).all (fun x => !x.1) && (backToKw cpos (keywordEach [] X.env)).all (fun x => x.1.isSome)
    && decide (([e] : List Expr).length + ([] : List Keyword).length + (if ([] : List Keyword).isEmpty then 0 else 1) < 30)) = true
  line : (apos.endLine == cpos.line) = true
  trees : backTo cpos (starEach [e] X.env) = [(false, eval e X.env)]
structure M2 (X : Cx) (o : Expr) (m : Str) (apos : Pos) (e f : Expr) (cpos : Pos) : Prop where
  base : attributeBase o m X.env (eval o X.env) = eval o X.env
  few : ((backTo cpos (starEach [e, f] X.env)).all (fun x => !x.1) && (backToKw cpos (keywordEach [] X.env)).all (fun x => x.1.isSome)
    && decide (([e, f] : List Expr).length + ([] : List Keyword).length + (if ([] : List Keyword).isEmpty then 0 else 1) < 30)) = true
  line : (apos.endLine == cpos.line) = true
  trees : backTo cpos (starEach [e, f] X.env) = [(false, eval e X.env), (false, eval f X.env)]

/-- a is a dict, whatever its keys -/
def IsD (H : Hp) (a : Addr) : Prop := (∃ kvs, Rd H a (.dK kvs)) ∨ ∃ kvs, Rd H a (.dT kvs)

section
variable {X : Cx} {pins : List (Addr × Obj)} {σ : St} {H : Hp} {s : Shared} {a : Addr} {y d : V} {u r : Value} {o : Option V} {A : Around} {E : Value → Shared → Prop}
end

def tDGet1 (td ty : TE) : TE := fun σ H Q => td σ H fun x H1 => ∃ a, x = .ref a ∧ IsD H1 a ∧ ty σ H1 fun y H2 => ∃ o, DGet H2 a y o ∧ Q (o.getD .non) H2
def tDGet2 (td ty tx : TE) : TE := fun σ H Q => td σ H fun x H1 => ∃ a, x = .ref a ∧ IsD H1 a ∧ ty σ H1 fun y H2 => tx σ H2 fun z H3 => ∃ o, DGet H3 a y o ∧ Q (o.getD z) H3
/-- d.pop(k): there; d.pop(k, x): there or not -/
def tDPop1 (td ty : TE) : TE := fun σ H Q => td σ H fun x H1 => ∃ a, x = .ref a ∧ IsD H1 a ∧ ty σ H1 fun y H2 => ∃ kvs k v, H2 a = some (.dK kvs) ∧ y = kV k ∧ valV kvs k = some v ∧ Q v (upd H2 a (.dK (dropK kvs k)))
def tDPop2 (td ty tx : TE) : TE := fun σ H Q => td σ H fun x H1 => ∃ a, x = .ref a ∧ IsD H1 a ∧ ty σ H1 fun y H2 => tx σ H2 fun z H3 => ∃ kvs k, H3 a = some (.dK kvs) ∧ y = kV k ∧
  (∀ v, valV kvs k = some v → Q v (upd H3 a (.dK (dropK kvs k)))) ∧ (valV kvs k = none → Q z H3)
section
variable {X : Cx} {o e f : Expr} {apos cpos : Pos} {td ty tx : TE}
end

end L2
namespace L2
open PySem PySem.Spec PyProof.Rows
/-! ### enumerate over a list -/
/-- the list at a, with its places: each turn a new pair -/
def Itel (K : PySem.W.Frag) (a : Addr) : It :=
  ⟨fun i H => ∃ xs x, SqL K H a xs ∧ xs[i]? = some x, fun i H x H' => ∃ T y, H T = none ∧ x = .ref T ∧ H' = upd H T (.tup [.int i, y]) ∧ ∀ xs, SqL K H a xs → xs[i]? = some y, fun i H => ∃ xs, SqL K H a xs ∧ xs.length = i⟩
section
variable {X : Cx}
def iEnumL (K : PySem.W.Frag) (ta : TA) : TI := fun σ H R => ta σ H fun vs H1 => ∃ a, vs = [.ref a] ∧ (∃ xs, SqL K H1 a xs) ∧ R (Itel K a) H1
end

/-! ### list.index, of ints -/
section
variable {X : Cx}
def rIndex : V → List V → Hp → VK → Prop := fun x vs H Q => ∃ (l : Addr) (os : List Int) (k : Int) (j : Nat), x = .ref l ∧ vs = [.int k] ∧ H l = some (.lst (os.map V.int)) ∧ os[j]? = some k ∧ (∀ m, m < j → os[m]? ≠ some k) ∧ Q (.int j) H
end
end L2
namespace Pl
theorem snoc_ind {α : Type} {P : List α → Prop} (h0 : P []) (h1 : ∀ l x, P l → P (l ++ [x])) (l : List α) : P l := by
  have : P l.reverse.reverse := by
    generalize l.reverse = r
    induction r with
    | nil => simpa using h0
    | cons a r ih => simpa using h1 _ a ih
  simpa using this
/-- a step of a walk -/
inductive Stp where
  | lone | opn | num (k : Nat)
  deriving DecidableEq
/-- how far, the open ones, the pairs by their ends -/
structure Ws where
  p : Nat
  o : List Nat
  q : List (Nat × Nat)
def stepW (s : Ws) : Stp → Ws
  | .lone => ⟨s.p + 1, s.o, s.q⟩
  | .opn => ⟨s.p + 1, s.o ++ [s.p], s.q⟩
  | .num k => ⟨s.p + 1, s.o.filter (fun x => x != s.o.getD k 0), s.q ++ [(s.o.getD k 0, s.p)]⟩
def runW (ws : List Stp) : Ws := ws.foldl stepW ⟨0, [], []⟩
theorem runW_snoc (ws : List Stp) (x : Stp) : runW (ws ++ [x]) = stepW (runW ws) x := by simp [runW, List.foldl_append]
theorem runW_p (ws : List Stp) : (runW ws).p = ws.length := by
  refine snoc_ind (P := fun ws => (runW ws).p = ws.length) rfl (fun l x ih => ?_) ws
  rw [runW_snoc]
  cases x <;> simp [stepW, ih]
def hgt (ws : List Stp) : Nat := (runW ws).o.length
def Val (ws : List Stp) : Prop := ∀ i k, ws[i]? = some (.num k) → k < hgt (ws.take i)
theorem Val.nil : Val [] := fun i k h => by simp at h
theorem Val.snoc {ws : List Stp} {x : Stp} (h : Val ws) (hx : ∀ k, x = .num k → k < hgt ws) : Val (ws ++ [x]) := by
  intro i k e
  by_cases hi : i < ws.length
  · rw [List.getElem?_append_left hi] at e
    rw [List.take_append_of_le_length (Nat.le_of_lt hi)]
    exact h i k e
  · have hl := (List.getElem?_eq_some_iff.mp e).1
    rw [List.length_append, List.length_singleton] at hl
    have hi2 : i = ws.length := by omega
    subst hi2
    rw [List.getElem?_append_right (Nat.le_refl _), Nat.sub_self] at e
    have e' : x = .num k := by simpa using e
    rw [List.take_left']
    · exact hx k e'
    · rfl
theorem Val.of_snoc {ws : List Stp} {x : Stp} (h : Val (ws ++ [x])) : Val ws ∧ ∀ k, x = .num k → k < hgt ws := by
  constructor
  · intro i k e
    have hi := (List.getElem?_eq_some_iff.mp e).1
    have := h i k (by rw [List.getElem?_append_left hi]; exact e)
    rwa [List.take_append_of_le_length (Nat.le_of_lt hi)] at this
  · intro k e
    have := h ws.length k (by simp [e])
    rwa [List.take_left' rfl] at this
def pts (s : Ws) : List Nat := s.q.flatMap (fun x => [x.1, x.2]) ++ s.o
structure WInv (s : Ws) : Prop where
  up : s.o.Pairwise (· < ·)
  nd : (pts s).Nodup
  lt : ∀ x ∈ pts s, x < s.p
  pr : ∀ x ∈ s.q, x.1 < x.2
theorem filter_ne {o : List Nat} (nd : o.Nodup) {k : Nat} (hk : k < o.length) : o.filter (fun x => x != o.getD k 0) = o.take k ++ o.drop (k + 1) := by
  have e : o = o.take k ++ o[k] :: o.drop (k + 1) := by simp
  have eg : o.getD k 0 = o[k] := by simp [hk]
  rw [eg]
  have nd' : (o.take k ++ o[k] :: o.drop (k + 1)).Nodup := by rw [← e]; exact nd
  rw [List.nodup_append] at nd'
  obtain ⟨_, n2, n3⟩ := nd'
  rw [List.nodup_cons] at n2
  conv => lhs; rw [show List.filter (fun x => x != o[k]) o = List.filter (fun x => x != o[k]) (o.take k ++ o[k] :: o.drop (k + 1)) from by rw [← e]]
  rw [List.filter_append, List.filter_cons_of_neg (by simp), List.filter_eq_self.mpr, List.filter_eq_self.mpr]
  · intro a ha
    have : a ≠ o[k] := fun h => n2.1 (h ▸ ha)
    simpa using this
  · intro a ha
    have : a ≠ o[k] := n3 a ha _ List.mem_cons_self
    simpa using this
theorem WInv.ndo {s : Ws} (h : WInv s) : s.o.Nodup := (List.nodup_append.mp h.nd).2.1
theorem perm_num {s : Ws} (h : s.o.Nodup) {k : Nat} (hk : k < s.o.length) :
    (pts (stepW s (.num k))).Perm (s.p :: pts s) := by
  have eg : s.o.getD k 0 = s.o[k] := by simp [hk]
  have e : s.o = s.o.take k ++ s.o[k] :: s.o.drop (k + 1) := by simp
  show (List.flatMap (fun x : Nat × Nat => [x.1, x.2]) (s.q ++ [(s.o.getD k 0, s.p)]) ++ s.o.filter (fun x => x != s.o.getD k 0)).Perm _
  rw [filter_ne h hk, eg, List.flatMap_append]
  show ((List.flatMap (fun x : Nat × Nat => [x.1, x.2]) s.q ++ [s.o[k], s.p]) ++ (s.o.take k ++ s.o.drop (k + 1))).Perm (s.p :: (List.flatMap (fun x : Nat × Nat => [x.1, x.2]) s.q ++ s.o))
  generalize List.flatMap (fun x : Nat × Nat => [x.1, x.2]) s.q = F
  have h2 : (s.o.take k ++ s.o[k] :: s.o.drop (k + 1)).Perm (s.o[k] :: (s.o.take k ++ s.o.drop (k + 1))) := List.perm_middle
  rw [← e] at h2
  have h3 : (s.p :: (F ++ s.o)).Perm (s.p :: (F ++ s.o[k] :: (s.o.take k ++ s.o.drop (k + 1)))) := (List.Perm.append_left F h2).cons _
  refine List.Perm.trans ?_ h3.symm
  generalize s.o.take k ++ s.o.drop (k + 1) = R
  generalize s.o[k] = z
  generalize s.p = p
  have h4 : ((F ++ [z, p]) ++ R).Perm (F ++ (p :: z :: R)) := by
    rw [List.append_assoc]
    exact List.Perm.append_left F (List.Perm.swap p z R)
  exact h4.trans List.perm_middle
theorem perm_opn {s : Ws} : (pts (stepW s .opn)).Perm (s.p :: pts s) := by
  show (List.flatMap (fun x : Nat × Nat => [x.1, x.2]) s.q ++ (s.o ++ [s.p])).Perm (s.p :: (List.flatMap (fun x : Nat × Nat => [x.1, x.2]) s.q ++ s.o))
  rw [← List.append_assoc]
  exact List.perm_append_singleton _ _
theorem WInv.step {s : Ws} (h : WInv s) {x : Stp} (hx : ∀ k, x = .num k → k < s.o.length) : WInv (stepW s x) := by
  have np : s.p ∉ pts s := fun z => Nat.lt_irrefl _ (h.lt _ z)
  cases x with
  | lone => exact ⟨h.up, h.nd, fun x hx => Nat.lt_succ_of_lt (h.lt x hx), h.pr⟩
  | opn =>
    refine ⟨?_, ?_, ?_, h.pr⟩
    · show (s.o ++ [s.p]).Pairwise (· < ·)
      rw [List.pairwise_append]
      refine ⟨h.up, List.pairwise_singleton _ _, fun a ha b hb => ?_⟩
      rw [List.mem_singleton.mp hb]
      exact h.lt a (List.mem_append_right _ ha)
    · exact (perm_opn.nodup_iff).mpr (List.nodup_cons.mpr ⟨np, h.nd⟩)
    · intro x hx
      rcases List.mem_cons.mp (perm_opn.mem_iff.mp hx) with e | e
      · subst e; exact Nat.lt_succ_self _
      · exact Nat.lt_succ_of_lt (h.lt x e)
  | num k =>
    have hk := hx k rfl
    have P := perm_num h.ndo hk
    refine ⟨h.up.filter _, (P.nodup_iff).mpr (List.nodup_cons.mpr ⟨np, h.nd⟩), fun x hx => ?_, fun x hx => ?_⟩
    · rcases List.mem_cons.mp (P.mem_iff.mp hx) with e | e
      · subst e; exact Nat.lt_succ_self _
      · exact Nat.lt_succ_of_lt (h.lt x e)
    · rcases List.mem_append.mp hx with e | e
      · exact h.pr x e
      · rw [List.mem_singleton.mp e]
        refine h.lt _ (List.mem_append_right _ ?_)
        have eg : s.o.getD k 0 = s.o[k] := by simp [hk]
        show s.o.getD k 0 ∈ s.o
        rw [eg]
        exact List.getElem_mem hk
theorem WInv.start : WInv ⟨0, [], []⟩ := ⟨List.Pairwise.nil, by show ([] : List Nat).Nodup; exact List.nodup_nil, fun x hx => by simp [pts] at hx, fun x hx => by simp at hx⟩
theorem winv {ws : List Stp} : Val ws → WInv (runW ws) := by
  refine snoc_ind (P := fun ws => Val ws → WInv (runW ws)) (fun _ => WInv.start) (fun l x ih h => ?_) ws
  obtain ⟨h1, h2⟩ := h.of_snoc
  rw [runW_snoc]
  exact (ih h1).step h2
theorem hgt_lone (ws : List Stp) : hgt (ws ++ [.lone]) = hgt ws := by unfold hgt; rw [runW_snoc]; rfl
theorem hgt_opn (ws : List Stp) : hgt (ws ++ [.opn]) = hgt ws + 1 := by unfold hgt; rw [runW_snoc]; simp [stepW]
theorem hgt_num {ws : List Stp} (h : Val ws) {k : Nat} (hk : k < hgt ws) : hgt (ws ++ [.num k]) + 1 = hgt ws := by
  unfold hgt at *
  rw [runW_snoc]
  show ((runW ws).o.filter _).length + 1 = _
  rw [filter_ne (winv h).ndo hk, List.length_append, List.length_take, List.length_drop]
  omega
theorem hgt_le (ws : List Stp) : hgt ws ≤ ws.length := by
  refine snoc_ind (P := fun ws => hgt ws ≤ ws.length) (Nat.le_refl _) (fun l x ih => ?_) ws
  unfold hgt at *
  rw [runW_snoc, List.length_append]
  cases x with
  | lone => exact Nat.le_succ_of_le ih
  | opn => simp only [stepW, List.length_append, List.length_cons, List.length_nil]; omega
  | num k => exact Nat.le_succ_of_le (Nat.le_trans (List.length_filter_le _ _) ih)
theorem q_le (ws : List Stp) : (runW ws).q.length ≤ ws.length := by
  refine snoc_ind (P := fun ws => (runW ws).q.length ≤ ws.length) (Nat.le_refl _) (fun l x ih => ?_) ws
  rw [runW_snoc, List.length_append]
  cases x with
  | lone => exact Nat.le_succ_of_le ih
  | opn => exact Nat.le_succ_of_le ih
  | num k => simp only [stepW, List.length_append, List.length_cons, List.length_nil]; omega
/-- a whole walk -/
def Walk (ws : List Stp) : Prop := Val ws ∧ hgt ws = 0
/-- a pairing's pairs: each rising, all points apart and below n -/
structure Prs (n : Nat) (ps : List (Nat × Nat)) : Prop where
  pr : ∀ x ∈ ps, x.1 < x.2 ∧ x.2 < n
  nd : (ps.flatMap (fun x => [x.1, x.2])).Nodup
theorem Walk.prs {ws : List Stp} (h : Walk ws) : Prs ws.length (runW ws).q := by
  have W := winv h.1
  have e : (runW ws).o = [] := List.length_eq_zero_iff.mp h.2
  refine ⟨fun x hx => ⟨W.pr x hx, ?_⟩, ?_⟩
  · rw [← runW_p ws]
    refine W.lt _ (List.mem_append_left _ (List.mem_flatMap.mpr ⟨x, hx, by simp⟩))
  · have := W.nd
    unfold pts at this
    rwa [e, List.append_nil] at this
theorem Prs.perm {n : Nat} {ps qs : List (Nat × Nat)} (h : Prs n ps) (p : qs.Perm ps) : Prs n qs :=
  ⟨fun x hx => h.pr x (p.mem_iff.mp hx), (p.flatMap_right _).nodup_iff.mpr h.nd⟩
/-- the order of tuples of two numbers -/
def lexb (a b : Nat × Nat) : Bool := decide (a.1 < b.1) || (decide (a.1 = b.1) && decide (a.2 < b.2))
/-! ### twos -/
def twos {α : Type} : List α → List (α × α)
  | [] => []
  | a :: r => r.map (fun b => (a, b)) ++ twos r
/-- counted by all and all -/
def cnt {α : Type} (p : α → α → Bool) (l : List α) (m : List α) : Nat := (l.map fun a => (m.filter (p a)).length).sum
end Pl
namespace Pl
def crossB (a b : Nat × Nat) : Bool := decide (a.1 < b.1) && (decide (b.1 < a.2) && decide (a.2 < b.2))
def nestB (a b : Nat × Nat) : Bool := decide (a.1 < b.1) && decide (b.2 < a.2)
def crossP (a b : Nat × Nat) : Bool := decide (b.1 < a.2) && decide (a.2 < b.2)
def nestP (a b : Nat × Nat) : Bool := decide (b.2 < a.2)
end Pl
namespace L2
open PySem PySem.Spec PyProof.Rows
/-! ### texts: f-strings, split, join, endswith, slices, int -/
section
variable {X : Cx}
def tFInt (te : TE) : TE := fun σ H Q => te σ H fun x H1 => ∃ i : Int, x = .int i ∧ i.natAbs.log2 < 1920 ∧ Q (.str (toString i)) H1
/-- the parts of an f-string, one behind the other -/
abbrev TJ := Str → St → Hp → (Str → Hp → Prop) → Prop
def PJ (X : Cx) (es : List Expr) (t : TJ) : Prop :=
  ∀ (pins : List (Addr × Obj)) (s : Shared) (σ : St) (H : Hp) (acc : Str) (Q : Str → Hp → Prop), Inv X pins σ H s → t acc σ H Q →
    Joins (model X.prog X.w) X.A X.xe (evalEach es X.env) acc (fun out s₁ => ∃ H', Inv X pins σ H' s₁ ∧ Q out H') s
def jNil : TJ := fun acc _ H Q => Q acc H
def jCons (te : TE) (t : TJ) : TJ := fun acc σ H Q => te σ H fun x H1 => ∃ y, x = .str y ∧ (acc ++ y).length ≤ sizeLine ∧ t (acc ++ y) σ H1 Q
theorem vals_strs : ∀ l : List (Str × Tok), Vals ((l.map (·.1)).map V.str) (strValues l)
  | [] => .nil
  | (_, t) :: r => .cons ⟨t, rfl⟩ (vals_strs r)
theorem strs_of : ∀ {ws : List Str} {its : List Value}, Vals (ws.map V.str) its → ∃ l : List (Str × Tok), its = strValues l ∧ l.map (·.1) = ws
  | [], _, r => by rw [List.map_nil] at r; cases r; exact ⟨[], rfl, rfl⟩
  | w :: ws, _, r => by
    rw [List.map_cons] at r
    cases r with
    | cons a b =>
      obtain ⟨t, rfl⟩ := a
      obtain ⟨l, rfl, e⟩ := strs_of b
      exact ⟨(w, t) :: l, rfl, by rw [List.map_cons, e]⟩
/-! str.split(sep) -/
def rSplit : V → List V → Hp → VK → Prop := fun x vs H Q => ∃ (t y : Str), x = .str t ∧ vs = [.str y] ∧ (y.length == 0) = false ∧ t.length ≤ 10000 ∧ ∀ l, H l = none → Q (.ref l) (upd H l (.lst ((Txt.split t y).map V.str)))
theorem mt_split : MtR X "str.split" rSplit := by
  intro pins s σ H x vs v us Q I rx rv h
  obtain ⟨t, y, rfl, rfl, hy, hz, q⟩ := h
  obtain ⟨tk, rfl⟩ := rx
  obtain ⟨u, rfl, ru⟩ := rv.one
  obtain ⟨tu, rfl⟩ := ru
  have hsl := split_le t y
  have fin : ∀ (l : List (Str × Tok)) (k : Nat), l.map (·.1) = Txt.split t y → EP X pins σ Q (.ref s.heap.objs.size) { s with heap := s.heap.push { cls := .type "list", data := .seq (strValues l).toArray }, toks := k } := fun l k e => by
    refine ⟨.ref s.heap.objs.size, _, Inv.lnew (its := strValues l) (ys := (Txt.split t y).map V.str) I (by rw [← e]; exact vals_strs l) ?_, rfl, q _ I.fresh⟩
    rw [List.length_map, sizeLine_eq]; omega
  have hsz : t.length ≤ sizeLine := by rw [sizeLine_eq]; omega
  cases h1 : (decide (t.length < y.length) || decide (Builtin.Str.strKind t < Builtin.Str.strKind y))
  · cases hf : (Builtin.Str.occurrences t y 0 t.length (t.length + 1)).isEmpty
    · have e : Txt.split t y = Builtin.Str.partsBetween t (Builtin.Str.occurrences t y 0 t.length (t.length + 1)) y.length := (if_neg (ne_true_of_eq_false h1)).trans (if_neg (ne_true_of_eq_false hf))
      refine call_meets F.slot_str_split (typeIs_str _ _ _) F.entry_str_split (F.args_str_split_2 _ _) (meets_str_split_sep t y tk tu h1 hy hf hsz (by rw [← e, sizeLine_eq]; omega)) ?_
      show wants _ _ _ { s with toks := _, heap := s.heap.push { cls := .type "list", data := .seq (strsFrom s.toks (Builtin.Str.partsBetween t (Builtin.Str.occurrences t y 0 t.length (t.length + 1)) y.length)).toArray } }
      rw [strsFrom_eq]
      exact fin (numbered s.toks _) _ ((numbered_texts _ _).trans e.symm)
    · exact call_meets F.slot_str_split (typeIs_str _ _ _) F.entry_str_split (F.args_str_split_2 _ _) (meets_str_split_not_found t y tk tu h1 hy hf)
        (fin [(t, tk)] s.toks ((if_neg (ne_true_of_eq_false h1)).trans (if_pos hf)).symm)
  · exact call_meets F.slot_str_split (typeIs_str _ _ _) F.entry_str_split (F.args_str_split_2 _ _) (meets_str_split_cannot_occur t y tk tu h1) (fin [(t, tk)] s.toks (if_pos h1).symm)
/-! str.join(list) -/
def rJoin (K : PySem.W.Frag) : V → List V → Hp → VK → Prop := fun x vs H Q => ∃ (sep : Str) (p : Addr) (ws : List Str), x = .str sep ∧ vs = [.ref p] ∧ SqL K H p (ws.map V.str) ∧ JoinOk sep ws = true ∧ Q (.str (Txt.join sep ws)) H
theorem mt_join : MtR X "str.join" (rJoin X.K) := by
  intro pins s σ H x vs v us Q I rx rv h
  obtain ⟨sep, p, ws, rfl, rfl, hq, hok, q⟩ := h
  obtain ⟨tk, rfl⟩ := rx
  obtain ⟨u, rfl, ru⟩ := rv.one
  obtain rfl : u = Value.ref p := ru
  obtain ⟨its, r, pl, _⟩ := I.list hq
  obtain ⟨l, rfl, e⟩ := strs_of r
  exact SC.join pl.isList e hok fun t' k => ⟨.str (Txt.join sep ws), H, I.tok _, ⟨_, rfl⟩, q⟩
/-! str.endswith(text) -/
def endsB (x y : Str) : Bool := decide (0 + y.length ≤ x.length) && Builtin.Str.subAt x y (x.length - y.length)
def rEnds : V → List V → Hp → VK → Prop := fun x vs H Q => ∃ (t y : Str), x = .str t ∧ vs = [.str y] ∧ Q (.bl (endsB t y)) H
theorem mt_ends : MtR X "str.endswith" rEnds := by
  intro pins s σ H x vs v us Q I rx rv h
  obtain ⟨t, y, rfl, rfl, q⟩ := h
  obtain ⟨tk, rfl⟩ := rx
  obtain ⟨u, rfl, ru⟩ := rv.one
  obtain ⟨tu, rfl⟩ := ru
  exact call_gives F.slot_str_endswith (typeIs_str _ _ _) F.entry_str_endswith (F.args_str_endswith_2 _ _) (gives_str_endswith t y tk tu) ⟨.bl _, H, I, rfl, q⟩
/-! text[lo:hi] -/
def rSlS : V → Option Int → Option Int → Hp → VK → Prop := fun x lo hi H Q => ∃ t : Str, x = .str t ∧ t.length ≤ 10000 ∧ Q (.str (StrLaws.sliceText t lo hi)) H
theorem part_of {v : Value} {o : Option Int} (h : IsPart v o) : ∃ l : Option (Int × Tok), v = partValue l ∧ o = l.map (·.1) := by
  cases h with
  | none => exact ⟨none, rfl, rfl⟩
  | int i t => exact ⟨some (i, t), rfl, rfl⟩
theorem sl_str : SlR X rSlS := by
  intro pins s σ H x v vl vu lo hi sl Q I rx hs pl pu h
  obtain ⟨t, rfl, hz, q⟩ := h
  obtain ⟨tk, rfl⟩ := rx
  obtain ⟨l, rfl, rfl⟩ := part_of pl
  obtain ⟨u, rfl, rfl⟩ := part_of pu
  refine ⟨"str", _, F.slot_str_getitem.lookup, typeIs_str _ _ _, ?_⟩
  refine wpAny_getItem_str_slice (l := l) (u := u) (st := none) hs rfl ?_
  refine post_val_or_made (fun _ => ?_) fun t' k => ⟨.str _, H, I.tok _, ⟨_, rfl⟩, q⟩
  have h1 := sliceIndices_le (l.map (·.1)) (u.map (·.1)) t.length
  have h2 := List.length_filterMap_le (t.cps[·]?) (Builtin.Str.strSliceIndices (l.map (·.1)) (u.map (·.1)) 1 t.length)
  show (((Builtin.Str.strSliceIndices (l.map (·.1)) (u.map (·.1)) 1 t.length).filterMap (t.cps[·]?)).toArray).size ≤ sizeLine
  rw [List.size_toArray, sizeLine_eq]
  omega
/-! int(text) -/
theorem call_int_text : CallR X (.type "int") (fun xs H Q => ∃ (t : Str) (n : Int), xs = [.str t] ∧ PySem.intText? t = some n ∧ t.length ≤ 640 ∧ Q (.int n) H) := by
  intro pins s σ H xs us Q I r h
  obtain ⟨t, n, rfl, hn, hl, q⟩ := h
  obtain ⟨u, rfl, ru⟩ := r.one
  obtain ⟨tk, rfl⟩ := ru
  exact PySem.W.KIN.call_text hn hl ⟨.int n, H, I.tok _, ⟨_, rfl⟩, q⟩
/-! try, where nothing is raised -/
end
end L2
namespace Pl
open PySem
/-! ### texts put together and parted -/
def jl (c : Nat) : List (List Nat) → List Nat
  | [] => []
  | [x] => x
  | x :: y :: r => x ++ c :: jl c (y :: r)
theorem app_inj {c : Nat} : ∀ {x y A B : List Nat}, c ∉ x → c ∉ y → x ++ c :: A = y ++ c :: B → x = y ∧ A = B
  | [], [], _, _, _, _, e => by injection e with _ e; exact ⟨rfl, e⟩
  | [], b :: y, _, _, _, hy, e => by
    injection e with e1 _
    exact absurd (by rw [← e1]; exact List.mem_cons_self) hy
  | a :: x, [], _, _, hx, _, e => by
    injection e with e1 _
    exact absurd (by rw [e1]; exact List.mem_cons_self) hx
  | a :: x, b :: y, _, _, hx, hy, e => by
    injection e with e1 e2
    obtain ⟨h1, h2⟩ := app_inj (fun z => hx (List.mem_cons_of_mem _ z)) (fun z => hy (List.mem_cons_of_mem _ z)) e2
    exact ⟨by rw [e1, h1], h2⟩
theorem jl_inj {c : Nat} : ∀ {a b : List (List Nat)}, a ≠ [] → b ≠ [] → (∀ x ∈ a, c ∉ x) → (∀ x ∈ b, c ∉ x) → jl c a = jl c b → a = b
  | [], _, h, _, _, _, _ => absurd rfl h
  | _, [], _, h, _, _, _ => absurd rfl h
  | [x], [y], _, _, _, _, e => by rw [show x = y from e]
  | [x], y :: z :: r, _, _, hx, _, e => by
    have e' : x = y ++ c :: jl c (z :: r) := e
    exact absurd (by rw [e']; simp) (hx x List.mem_cons_self)
  | x :: z :: r, [y], _, _, _, hy, e => by
    have e' : x ++ c :: jl c (z :: r) = y := e
    exact absurd (by rw [← e']; simp) (hy y List.mem_cons_self)
  | x :: z :: r, y :: u :: q, _, _, hx, hy, e => by
    obtain ⟨h1, h2⟩ := app_inj (hx x List.mem_cons_self) (hy y List.mem_cons_self) e
    have h3 := jl_inj (a := z :: r) (b := u :: q) (by simp) (by simp) (fun w hw => hx w (List.mem_cons_of_mem _ hw)) (fun w hw => hy w (List.mem_cons_of_mem _ hw)) h2
    rw [h1, h3]
theorem str_eq {a b : Str} (h : a.cps.toList = b.cps.toList) : a = b := Str.ext' (Array.toList_inj.mp h)
theorem app_toList (a b : Str) : (a ++ b).cps.toList = a.cps.toList ++ b.cps.toList := by rw [Str.cps_append, Array.toList_append]
theorem join_toList (c : Nat) : ∀ ws : List Str, (Str.join ⟨#[c]⟩ ws).cps.toList = jl c (ws.map fun w => w.cps.toList)
  | [] => rfl
  | [x] => rfl
  | x :: y :: r => by
    show (x ++ ⟨#[c]⟩ ++ Str.join ⟨#[c]⟩ (y :: r)).cps.toList = x.cps.toList ++ c :: jl c ((y :: r).map fun w => w.cps.toList)
    rw [app_toList, app_toList, join_toList c (y :: r), List.append_assoc]
    rfl
theorem strs_inj : ∀ {a b : List Str}, (a.map fun w => w.cps.toList) = b.map (fun w => w.cps.toList) → a = b
  | [], [], _ => rfl
  | [], _ :: _, h => by cases h
  | _ :: _, [], h => by cases h
  | x :: a, y :: b, h => by
    rw [List.map_cons, List.map_cons] at h
    injection h with h1 h2
    rw [str_eq h1, strs_inj h2]
theorem split_uniq {c : Nat} {ws : List Str} (h0 : ws ≠ []) (hf : ∀ w ∈ ws, c ∉ w.cps.toList) : Txt.split (Str.join ⟨#[c]⟩ ws) ⟨#[c]⟩ = ws := by
  apply strs_inj
  have hp := PyProof.Rows.split_pos (Str.join ⟨#[c]⟩ ws) ⟨#[c]⟩
  refine jl_inj (c := c) ?_ ?_ ?_ ?_ ?_
  · intro z
    rw [List.map_eq_nil_iff] at z
    rw [z] at hp
    simp at hp
  · intro z; exact h0 (List.map_eq_nil_iff.mp z)
  · intro x hx
    obtain ⟨w, hw, rfl⟩ := List.mem_map.mp hx
    exact StrLaws.split_free _ c w hw
  · intro x hx
    obtain ⟨w, hw, rfl⟩ := List.mem_map.mp hx
    exact hf w hw
  · rw [← join_toList, ← join_toList, StrLaws.join_split]
/-- a number, written -/
def nS (n : Nat) : Str := (toString (n : Int) : String)
theorem nS_ok : ∀ n, n ≤ 60 → (nS n).length ≤ 2 ∧ 32 ∉ (nS n).cps.toList ∧ 45 ∉ (nS n).cps.toList ∧ 58 ∉ (nS n).cps.toList ∧ intText? (nS n) = some (n : Int) := by decide +kernel
def sp : Str := " "
def hy : Str := "-"
def co : Str := ":"
theorem sp_is : sp = ⟨#[32]⟩ := by decide +kernel
theorem hy_is : hy = ⟨#[45]⟩ := by decide +kernel
theorem co_is : co = ⟨#[58]⟩ := by decide +kernel
theorem nS_inj {a b : Nat} (ha : a ≤ 60) (hb : b ≤ 60) (h : nS a = nS b) : a = b := by
  have h1 := (nS_ok a ha).2.2.2.2
  rw [h, (nS_ok b hb).2.2.2.2] at h1
  injection h1 with h1
  omega
def wP (p : Nat × Nat) : Str := nS p.1 ++ hy ++ nS p.2
def wN (n : Nat) : Str := nS n ++ co
def foldT (a : Str) (ps : List (Nat × Nat)) : Str := ps.foldl (fun a p => a ++ sp ++ nS p.1 ++ hy ++ nS p.2) a
theorem fold_join : ∀ (ps : List (Nat × Nat)) (a : Str), Str.join sp (a :: ps.map wP) = foldT a ps
  | [], a => rfl
  | p :: ps, a => by
    have ih := fold_join ps (a ++ sp ++ wP p)
    rw [StrLaws.join_shift] at ih
    show a ++ sp ++ Str.join sp (wP p :: ps.map wP) = foldT (a ++ sp ++ nS p.1 ++ hy ++ nS p.2) ps
    rw [ih]
    congr 1
    unfold wP
    rw [← Str.append_assoc, ← Str.append_assoc]
theorem foldT_snoc (a : Str) (ps : List (Nat × Nat)) (p : Nat × Nat) : foldT a (ps ++ [p]) = foldT a ps ++ sp ++ nS p.1 ++ hy ++ nS p.2 := by unfold foldT; rw [List.foldl_append]; rfl
theorem len_app (a b : Str) : (a ++ b).length = a.length + b.length := Str.length_append a b
theorem wP_ok {p : Nat × Nat} (h1 : p.1 ≤ 60) (h2 : p.2 ≤ 60) : (wP p).length ≤ 5 ∧ 32 ∉ (wP p).cps.toList := by
  have a := nS_ok p.1 h1
  have b := nS_ok p.2 h2
  have hl : hy.length = 1 := by decide +kernel
  refine ⟨by unfold wP; rw [len_app, len_app]; omega, ?_⟩
  unfold wP
  rw [app_toList, app_toList, hy_is]
  intro z
  rcases List.mem_append.mp z with z | z
  · rcases List.mem_append.mp z with z | z
    · exact a.2.1 z
    · revert z; decide
  · exact b.2.1 z
theorem wN_ok {n : Nat} (h : n ≤ 60) : (wN n).length ≤ 3 ∧ 32 ∉ (wN n).cps.toList := by
  have a := nS_ok n h
  have hl : co.length = 1 := by decide +kernel
  refine ⟨by unfold wN; rw [len_app]; omega, ?_⟩
  unfold wN
  rw [app_toList, co_is]
  intro z
  rcases List.mem_append.mp z with z | z
  · exact a.2.1 z
  · revert z; decide
theorem foldT_len {n : Nat} (h : n ≤ 60) : ∀ {ps : List (Nat × Nat)}, (∀ p ∈ ps, p.1 ≤ 60 ∧ p.2 ≤ 60) → (foldT (wN n) ps).length ≤ 3 + 6 * ps.length := by
  intro ps
  induction ps using snoc_ind with
  | h0 => intro _; exact (wN_ok h).1
  | h1 l p ih =>
    intro hp
    have h1 := ih fun q hq => hp q (List.mem_append_left _ hq)
    have h2 := hp p (by simp)
    have a := nS_ok p.1 h2.1
    have b := nS_ok p.2 h2.2
    have e1 : hy.length = 1 := by decide +kernel
    have e2 : sp.length = 1 := by decide +kernel
    rw [foldT_snoc, len_app, len_app, len_app, len_app, List.length_append, List.length_singleton]
    omega
theorem split_text {n : Nat} {ps : List (Nat × Nat)} (h : n ≤ 60) (hp : ∀ p ∈ ps, p.1 ≤ 60 ∧ p.2 ≤ 60) : Txt.split (foldT (wN n) ps) sp = wN n :: ps.map wP := by
  rw [← fold_join, sp_is]
  refine split_uniq (by simp) fun w hw => ?_
  rcases List.mem_cons.mp hw with e | hw
  · rw [e]; exact (wN_ok h).2
  · obtain ⟨p, hpm, rfl⟩ := List.mem_map.mp hw
    exact (wP_ok (hp p hpm).1 (hp p hpm).2).2
/-- parted at the hyphens in two -/
theorem split_two {t x y : Str} : Txt.split t hy = [x, y] ↔ (t = x ++ hy ++ y ∧ 45 ∉ x.cps.toList ∧ 45 ∉ y.cps.toList) := by
  constructor
  · intro h
    have hj := StrLaws.join_split t hy
    rw [h] at hj
    have hf := StrLaws.split_free t 45
    rw [← hy_is, h] at hf
    exact ⟨hj.symm, hf x (by simp), hf y (by simp)⟩
  · rintro ⟨rfl, h1, h2⟩
    have := split_uniq (c := 45) (ws := [x, y]) (by simp) (fun w hw => by
      rcases List.mem_cons.mp hw with e | hw
      · rw [e]; exact h1
      · rw [List.mem_singleton.mp hw]; exact h2)
    rw [← hy_is] at this
    exact this
end Pl
namespace Pl
open PySem
/-! ### the words of a text -/
theorem jl_mem {c : Nat} : ∀ {ws : List (List Nat)} {x : List Nat}, x ∈ ws → x.length ≤ (jl c ws).length ∧ ∀ a ∈ x, a ∈ jl c ws
  | [], _, h => by cases h
  | [y], x, h => by
    rw [List.mem_singleton.mp h]
    exact ⟨Nat.le_refl _, fun _ q => q⟩
  | y :: z :: r, x, h => by
    show x.length ≤ (y ++ c :: jl c (z :: r)).length ∧ ∀ a ∈ x, a ∈ y ++ c :: jl c (z :: r)
    rw [List.length_append, List.length_cons]
    rcases List.mem_cons.mp h with e | h
    · rw [e]
      exact ⟨by omega, fun a q => List.mem_append_left _ q⟩
    · obtain ⟨h1, h2⟩ := jl_mem (c := c) h
      exact ⟨by omega, fun a q => List.mem_append_right _ (List.mem_cons_of_mem _ (h2 a q))⟩
theorem jl_count {c : Nat} : ∀ {ws : List (List Nat)}, ws ≠ [] → (∀ x ∈ ws, c ∉ x) → (jl c ws).count c + 1 = ws.length
  | [], h, _ => absurd rfl h
  | [y], _, h => by
    show y.count c + 1 = 1
    rw [List.count_eq_zero.mpr (h y List.mem_cons_self)]
  | y :: z :: r, _, h => by
    show (y ++ c :: jl c (z :: r)).count c + 1 = (y :: z :: r).length
    have ih := jl_count (ws := z :: r) (by simp) (fun x hx => h x (List.mem_cons_of_mem _ hx))
    rw [List.count_append, List.count_eq_zero.mpr (h y List.mem_cons_self), List.count_cons_self, List.length_cons, ← ih]
    omega
theorem split_ne (t : Str) (c : Nat) : Txt.split t ⟨#[c]⟩ ≠ [] := fun z => by
  have hp := PyProof.Rows.split_pos t ⟨#[c]⟩
  rw [z] at hp
  simp at hp
theorem split_jl (t : Str) (c : Nat) : t.cps.toList = jl c ((Txt.split t ⟨#[c]⟩).map fun w => w.cps.toList) := by
  rw [← join_toList, StrLaws.join_split]
theorem split_word {t w : Str} {c : Nat} (h : w ∈ Txt.split t ⟨#[c]⟩) : w.length ≤ t.length ∧ (∀ a ∈ w.cps.toList, a ∈ t.cps.toList) ∧ c ∉ w.cps.toList := by
  obtain ⟨h1, h2⟩ := jl_mem (c := c) (List.mem_map_of_mem (f := fun w : Str => w.cps.toList) h)
  rw [← split_jl] at h1 h2
  refine ⟨?_, h2, StrLaws.split_free _ c w h⟩
  have e : ∀ s : Str, s.length = s.cps.toList.length := fun s => by simp [Str.length]
  rw [e, e]; exact h1
theorem split_count (t : Str) (c : Nat) : t.cps.toList.count c + 1 = (Txt.split t ⟨#[c]⟩).length := by
  have := jl_count (c := c) (ws := (Txt.split t ⟨#[c]⟩).map fun w => w.cps.toList) (fun z => split_ne t c (List.map_eq_nil_iff.mp z)) (fun x hx => by
    obtain ⟨w, hw, rfl⟩ := List.mem_map.mp hx
    exact StrLaws.split_free _ c w hw)
  rw [← split_jl, List.length_map] at this
  exact this
end Pl
namespace L2
open PySem PySem.Spec PyProof.Rows
/-! ### walking along a text -/
def Itx (x : Str) : It := ⟨fun i _ => i < x.cps.size, fun i H v H' => H' = H ∧ ∃ c, x.cps[i]? = some c ∧ v = .str ⟨#[c]⟩, fun i _ => x.cps.size ≤ i⟩
theorem turn_text {P : Program} {w : World} {K : PySem.W.Frag} {tg : Expr} (it : Addr) (x : Str) (t : Tok) : Turn P w K tg (Itx x) [it] it (fun i h => h.IsStrIter it "str_ascii_iterator" x t i) where
  mem := by simp
  obj := fun i h st b hb => by
    have e : b = it := by simpa using hb
    subst e
    obtain ⟨o, e, c, d⟩ := st
    exact ⟨o, e, fun v z => by rw [d] at z; cases z⟩
  keep := fun i h h' st k => by
    obtain ⟨o, e, r⟩ := st
    exact ⟨o, k it (by simp) o e, r⟩
  item := by
    intro X hP hw hK hc i pins s σ H E I hf st hg
    subst hP hw hK
    obtain ⟨f0, f1, f2, f3, f4, f5⟩ := hf it (by simp)
    have hi : i < x.cps.size := hg
    refine wpAny_pyNext_ascii_item st (Array.getElem?_eq_getElem hi) fun h' st' sb => ?_
    have I1 : Inv X pins σ H { s with heap := h', toks := s.toks + 1 } := I.turned (t' := s.toks + 1) (fun b o hb e => (sb.2 b hb).trans e) f0 f1 f3 f4 f5
    obtain ⟨o, e, c, d⟩ := id st'
    exact ⟨_, rfl, go_of (s := { s with heap := h', toks := s.toks + 1 }) e c d (by decide) ⟨.str ⟨#[x.cps[i]]⟩, H, I1, ⟨_, rfl⟩, ⟨rfl, _, Array.getElem?_eq_getElem hi, rfl⟩, st', fun b hb => (hf b hb).1⟩⟩
  done := by
    intro X hP hw hK hc i pins s σ H E I hf st hg
    subst hP hw hK
    obtain ⟨f0, f1, f2, f3, f4, f5⟩ := hf it (by simp)
    have hi : x.cps.size ≤ i := hg
    exact wpAny_pyNext_ascii_end (I.ok.hd hc) st (Array.getElem?_eq_none hi) fun h' eb => ⟨rfl, I.turned (t' := s.toks) (fun b o hb e => eb b o hb e) f0 f1 f3 f4 f5⟩
  self := fun _ _ _ _ _ st h => wpAny_pyIter_striter_ascii st h
section
variable {X : Cx} {tg : Expr}
def iText (tl : TE) : TI := fun σ H R => tl σ H fun v H1 => ∃ x, v = .str x ∧ x.cps.all (· < 128) = true ∧ R (Itx x) H1
theorem pi_text {l : Expr} {tl : TE} (hl : PE X l tl) : PI X tg l (iText tl) := by
  intro pins s σ H R I h
  refine thn (hl pins s σ H _ I h) fun v s1 ⟨x, H1, I1, r1, q1⟩ => ?_
  obtain ⟨x, e, hx, q⟩ := q1
  subst e
  obtain ⟨t, rfl⟩ := r1
  refine wpAny_pyIter_ascii hx ?_
  refine ⟨s1.heap.objs.size, [s1.heap.objs.size], _, _, H1, rfl, I1.kept (t' := s1.toks) fun b o e => Heap.get?_push_of_some _ e, turn_text _ x t, ⟨_, Heap.get?_push_size _ rfl, rfl, rfl⟩, fun b hb => ?_, q⟩
  have e : b = s1.heap.objs.size := by simpa using hb
  subst e
  exact I1.fpOk (Nat.le_refl _) (I1.hok.fresh (Nat.le_refl _))
/-! ### text.find(text) -/
def findI (x y : Str) : Int := match Builtin.Str.occurrences x y 0 x.length 1 with | i :: _ => (i : Int) | [] => -1
def rFind : V → List V → Hp → VK → Prop := fun x vs H Q => ∃ (t y : Str), x = .str t ∧ vs = [.str y] ∧ Q (.int (findI t y)) H
theorem mt_find : MtR X "str.find" rFind := by
  intro pins s σ H x vs v us Q I rx rv h
  obtain ⟨t, y, rfl, rfl, q⟩ := h
  obtain ⟨tk, rfl⟩ := rx
  obtain ⟨u, rfl, ru⟩ := rv.one
  obtain ⟨tu, rfl⟩ := ru
  exact call_gives F.slot_str_find (typeIs_str _ _ _) F.entry_str_find (F.args_str_find_2 _ _) (gives_str_find t y tk tu) ⟨.int _, H, I.tok _, ⟨_, rfl⟩, q⟩
/-! ### min, max of a list of numbers -/
theorem call_minL (hc : X.calm = true) : CallR X (.builtin "min") (fun xs H Q => ∃ l ns, xs = [.ref l] ∧ SqL X.K H l (ns.map V.int) ∧ ns ≠ [] ∧ ∀ M, M ∈ ns → (∀ a ∈ ns, M ≤ a) → Q (.int M) H) := by
  intro pins s σ H xs us Q I r h
  obtain ⟨l, ns, rfl, hq, hne, q⟩ := h
  obtain ⟨u, rfl, rx⟩ := vals1 r
  cases rx
  obtain ⟨its, rv, p, hz⟩ := I.list hq
  have hi : IntsAre its ns := intsAre_of rv
  obtain ⟨xs, e⟩ := hi.allInts.items
  have hns : ns = xs.toList.map (·.1) := by rw [← hi.numsOf, ← nums_intItems, ← e]
  have hsz : 0 < xs.size := by
    have h3 : 0 < ns.length := List.length_pos_iff.mpr hne
    rw [hns, List.length_map, Array.length_toList] at h3; exact h3
  have hl := p.isList
  rw [e] at hl
  refine min_intList (I.ok.hd hc) hl hsz fun v h' tk hv hk => ?_
  obtain ⟨t, rfl⟩ := intItems_at hv
  obtain ⟨h1, h2⟩ := argBest_lt (numAt xs) (xs.size - 1)
  refine ⟨.int _, H, I.kept (t' := tk) hk, ⟨_, rfl⟩, q _ ?_ fun a ha => ?_⟩
  · rw [hns, numAt_eq]; exact getD_mem (by rw [List.length_map, Array.length_toList]; omega)
  · rw [hns] at ha
    obtain ⟨j, hj, rfl⟩ := mem_getD ha
    rw [List.length_map, Array.length_toList] at hj
    rw [← numAt_eq]; exact h2 j (by omega)
theorem call_maxL (hc : X.calm = true) : CallR X (.builtin "max") (fun xs H Q => ∃ l ns, xs = [.ref l] ∧ SqL X.K H l (ns.map V.int) ∧ ns ≠ [] ∧ ∀ M, M ∈ ns → (∀ a ∈ ns, a ≤ M) → Q (.int M) H) := by
  intro pins s σ H xs us Q I r h
  obtain ⟨l, ns, rfl, hq, hne, q⟩ := h
  obtain ⟨u, rfl, rx⟩ := vals1 r
  cases rx
  obtain ⟨its, rv, p, hz⟩ := I.list hq
  have hi : IntsAre its ns := intsAre_of rv
  obtain ⟨xs, e⟩ := hi.allInts.items
  have hns : ns = xs.toList.map (·.1) := by rw [← hi.numsOf, ← nums_intItems, ← e]
  have hsz : 0 < xs.size := by
    have h3 : 0 < ns.length := List.length_pos_iff.mpr hne
    rw [hns, List.length_map, Array.length_toList] at h3; exact h3
  have hl := p.isList
  rw [e] at hl
  refine max_intList (I.ok.hd hc) hl hsz fun v h' tk hv hk => ?_
  obtain ⟨t, rfl⟩ := intItems_at hv
  obtain ⟨h1, h2⟩ := argBest_gt (numAt xs) (xs.size - 1)
  refine ⟨.int _, H, I.kept (t' := tk) hk, ⟨_, rfl⟩, q _ ?_ fun a ha => ?_⟩
  · rw [hns, numAt_eq]; exact getD_mem (by rw [List.length_map, Array.length_toList]; omega)
  · rw [hns] at ha
    obtain ⟨j, hj, rfl⟩ := mem_getD ha
    rw [List.length_map, Array.length_toList] at hj
    rw [← numAt_eq]; exact h2 j (by omega)
end
end L2
namespace L2
open PySem PySem.Spec PyProof.Rows
theorem met_all (val : Nat → Int) : ∀ i, (firstMet val i).length ≤ i ∧ ((firstMet val i).length = i ↔ ((List.range i).map val).Nodup)
  | 0 => ⟨Nat.le_refl _, by simp [firstMet_zero]⟩
  | i + 1 => by
    obtain ⟨h1, h2⟩ := met_all val i
    rw [firstMet_succ, step_length, firstMet_any]
    have e : ((List.range i).map val).any (· == val i) = decide (val i ∈ (List.range i).map val) := by
      rw [Bool.eq_iff_iff, List.any_eq_true, decide_eq_true_eq]
      constructor
      · rintro ⟨x, hx, e⟩
        rw [beq_iff_eq] at e
        exact e ▸ hx
      · intro hx
        exact ⟨_, hx, by simp⟩
    rw [e, List.range_succ, List.map_append, List.nodup_append]
    by_cases c : val i ∈ (List.range i).map val
    · rw [decide_eq_true c, if_pos rfl]
      refine ⟨by omega, ⟨fun z => by omega, fun z => ?_⟩⟩
      exact absurd rfl (z.2.2 _ c (val i) (by simp))
    · rw [decide_eq_false c, if_neg (by decide)]
      refine ⟨by omega, ⟨fun z => ⟨h2.mp (by omega), by simp, fun a ha b hb => ?_⟩, fun z => by have := h2.mpr z.1; omega⟩⟩
      have : b = val i := by simpa using hb
      rw [this]
      exact fun q => c (q ▸ ha)
theorem met_list (ns : List Int) : (List.range ns.length).map (fun i => ns.getD i 0) = ns := by
  refine List.ext_getElem (by simp) fun i h1 h2 => ?_
  simp at h1
  simp [h1]
def metN (ns : List Int) : Nat := (firstMet (fun i => ns.getD i 0) ns.length).length
theorem metN_lt (ns : List Int) : metN ns < ns.length ↔ ¬ ns.Nodup := by
  obtain ⟨h1, h2⟩ := met_all (fun i => ns.getD i 0) ns.length
  rw [met_list] at h2
  unfold metN
  constructor
  · intro z q
    have := h2.mpr q
    omega
  · intro z
    have : (firstMet (fun i => ns.getD i 0) ns.length).length ≠ ns.length := fun q => z (h2.mp q)
    omega
section
variable {X : Cx}
/-! ### set(list), len(set) -/
theorem call_setL (hc : X.calm = true) : CallR X (.type "set") (fun xs H Q => ∃ l ns, xs = [.ref l] ∧ SqL X.K H l (ns.map V.int) ∧ ns.length + 1 < scanBound ∧ ∀ d S, H d = none → Q (.ref d) (upd H d (.set S (metN ns)))) := by
  intro pins s σ H xs us Q I r h
  obtain ⟨l, ns, rfl, hq, hb, q⟩ := h
  obtain ⟨u, rfl, rx⟩ := vals1 r
  cases rx
  obtain ⟨its, rv, p, hz⟩ := I.list hq
  have hi : IntsAre its ns := intsAre_of rv
  have hlen : its.toArray.size = ns.length := by rw [List.size_toArray]; exact hi.length
  refine call_set_list (I.ok.hd hc) p.isList (ns := ns) (by simpa using hi) (by rw [hlen]; exact hb) fun h' tk hS kp => ?_
  have kp' : ∀ b o, s.heap.get? b = some o → h'.get? b = some o := fun b o e => kp b o (Heap.lt_size e) e
  rw [hlen] at hS
  exact ⟨.ref s.heap.objs.size, _, I.laid (t' := tk) kp' (Nat.le_refl _) (show ObjOk X.prog X.w _ _ _ (.set _ (metN ns)) from hS), rfl, q _ _ (I.hok.fresh (Nat.le_refl _))⟩
theorem call_lenS : CallR X (.builtin "len") (fun xs H Q => ∃ a S n, xs = [V.ref a] ∧ H a = some (.set S n) ∧ Q (.int n) H) := by
  intro pins s σ H xs us Q I r h
  obtain ⟨a, S, n, rfl, ha, q⟩ := h
  obtain ⟨u, rfl, rx⟩ := vals1 r
  cases rx
  obtain ⟨o, es, ep, t, h1, h2, h3, _, _, h4, h5, rfl⟩ := (I.hok a _ ha : ObjOk X.prog X.w H s.heap a (.set S n))
  exact call_len_set h1 h2 h3 h5 (by have : scanBound < 2 ^ 60 := by decide
                                     omega) ⟨.int _, H, I.tok _, ⟨_, rfl⟩, q⟩
end
end L2
namespace L2
open PySem PySem.SeqAt PyProof.Rows
open AutoSeq1 (wpAny_loadPart')
open MeetsSeq MeetsSeq2 MeetsSeq3
/-! ### `>` of tuples -/
def RcGtAt (A : Around) (s : Shared) (y x : Value) (b : Bool) : Prop :=
  ∀ (prog : Program) (w : World) (E : Value → Shared → Prop) (Q : Value → Shared → Prop), Q (.bool b) s → wpAny (model prog w) A (richCompare .Gt y x) Q E s
theorem tuple_gtAt (l b : Addr) (items items2 : Array Value) (n n2 : Nat) (dd dd2 : Option Addr) (sl sl2 : Array (Option Value)) (e lt : Nat → Bool) :
    Meets (Builtin.«tuple.__gt__» ⟨[.ref l, .ref b], []⟩)
      (fun A R s => s.heap.get? l = some { cls := .type "tuple", dict := dd, data := .seq items n, slots := sl } ∧ s.heap.get? b = some { cls := .type "tuple", dict := dd2, data := .seq items2 n2, slots := sl2 } ∧
        (∀ j (h1 : j < items.size) (h2 : j < items2.size), EqAt A.in1 s items[j] items2[j] (e j)) ∧ (∀ j (h1 : j < items.size) (h2 : j < items2.size), RcGtAt A.in1 s items[j] items2[j] (lt j)) ∧
        R (.ok (.ret (.bool (lexR e lt (decide (items.size > items2.size)) (List.range (min items.size items2.size)))))) s) :=
  .of_wp fun prog w A R s h => by
    obtain ⟨hp, g, d, tk, os⟩ := s; obtain ⟨hl, hb, he, hlt, h⟩ := h
    have f2 := AutoSeq1.sub_tuple_tuple
    have hZ : (items.toList.zip items2.toList).length = min items.size items2.size := by simp
    wp_walk using wpAny_loadPart' hl, wpAny_loadPart' hb, wpAny_forIn_list _ (fun rest b s' => b.1 = none ∧ s' = ⟨hp, g, d, tk, os⟩ ∧ ∃ i, rest = (items.toList.zip items2.toList).drop i ∧
      R (.ok (.ret (.bool (lexR e lt (decide (items.size > items2.size)) ((List.range (min items.size items2.size)).drop i))))) ⟨hp, g, d, tk, os⟩) _
    case turn =>
      rintro ⟨y, x⟩ rest b s' ⟨hb', rfl, i, hz, hR⟩
      have hil : i < (items.toList.zip items2.toList).length := by
        rcases Nat.lt_or_ge i (items.toList.zip items2.toList).length with h' | h'
        · exact h'
        · rw [List.drop_of_length_le h'] at hz; cases hz
      have hm : i < min items.size items2.size := hZ ▸ hil
      have h1 : i < items.size := Nat.lt_of_lt_of_le hm (Nat.min_le_left _ _)
      have h2 : i < items2.size := Nat.lt_of_lt_of_le hm (Nat.min_le_right _ _)
      rw [List.drop_eq_getElem_cons hil] at hz
      injection hz with hyx hrest
      have hy : y = items[i] := by have := congrArg Prod.fst hyx; simpa using this
      have hx : x = items2[i] := by have := congrArg Prod.snd hyx; simpa using this
      subst hy hx
      have hd : (List.range (min items.size items2.size)).drop i = i :: (List.range (min items.size items2.size)).drop (i + 1) := by simp [List.drop_eq_getElem_cons, hm]
      rw [hd, lexR] at hR
      refine wpAny_bind (he i h1 h2 prog w _ _ ?_)
      cases hy : e i with
      | true =>
        rw [hy] at hR
        wp_walk
        exact ⟨rfl, rfl, i + 1, hrest, hR⟩
      | false =>
        rw [hy] at hR
        simp only [Bool.not_false, if_true]
        refine wpAny_bind (wpAny_rule (wpAny_bind (hlt i h1 h2 prog w _ _ ?_)))
        wp_walk
        exact ⟨_, rfl, hR⟩
    case fin =>
      rintro ⟨b1, b2⟩ s' ⟨hb', rfl, i, hz, hR⟩
      simp only at hb'
      subst hb'
      have hge : min items.size items2.size ≤ i := by
        rcases Nat.lt_or_ge i (items.toList.zip items2.toList).length with h' | h'
        · rw [List.drop_eq_getElem_cons h'] at hz; cases hz
        · exact hZ ▸ h'
      rw [List.drop_of_length_le (by simpa using hge)] at hR
      wp_walk
      exact ⟨_, rfl, hR⟩
    case h =>
      exact ⟨rfl, rfl, 0, rfl, by simpa using h⟩
theorem gtAt_pair {A : Around} {s : Shared} {u v : Value} {p q : Int × Int} (hu : A.units < cLine) (h1 : PairAt s.heap u p) (h2 : PairAt s.heap v q) : RcGtAt A s u v (lexI q p) := by
  obtain ⟨a, ⟨c1, d1, dt1, sl1⟩, t1, t2, k, rfl, g1, g2, g3⟩ := h1
  obtain ⟨b, ⟨c2, d2, dt2, sl2⟩, u1, u2, k', rfl, g4, g5, g6⟩ := h2
  simp only at g2 g3 g5 g6
  subst g2 g3 g5 g6
  intro prog w E Q h
  refine richCompare_meets_room (op := .Gt) ⟨_, g1, rfl⟩ ⟨_, g4, rfl⟩ F.slot_tuple_gt F.entry_tuple_gt (F.args_tuple_gt_2 _ _) (tuple_gtAt a b _ _ k k' d1 d2 sl1 sl2 (fun j => if j = 0 then p.1 == q.1 else p.2 == q.2) (fun j => if j = 0 then decide (p.1 > q.1) else decide (p.2 > q.2)))
    ⟨g1, g4, fun j h1 h2 => ?_, fun j h1 h2 => ?_, ?_⟩ hu
  · match j, h1 with
    | 0, _ => exact EqAt.int_int _ _ _ _
    | 1, _ => exact EqAt.int_int _ _ _ _
  · match j, h1 with
    | 0, _ => exact fun _ _ _ _ hq => gt_int hq
    | 1, _ => exact fun _ _ _ _ hq => gt_int hq
  · refine ⟨(fun x => nomatch x), ?_⟩
    have e : lexR (fun j => if j = 0 then p.1 == q.1 else p.2 == q.2) (fun j => if j = 0 then decide (p.1 > q.1) else decide (p.2 > q.2)) (decide ((#[Value.int p.1 t1, Value.int p.2 t2] : Array Value).size > (#[Value.int q.1 u1, Value.int q.2 u2] : Array Value).size))
        (List.range (min (#[Value.int p.1 t1, Value.int p.2 t2] : Array Value).size (#[Value.int q.1 u1, Value.int q.2 u2] : Array Value).size)) = lexI q p := by
      show lexR _ _ (decide (2 > 2)) [0, 1] = _
      unfold lexI
      simp only [lexR, if_true, beq_iff_eq]
      by_cases e1 : p.1 = q.1
      · rw [if_pos e1, if_pos e1.symm]
        by_cases e2 : p.2 = q.2
        · simp [e2]
        · simp [e2]
      · rw [if_neg e1, if_neg (Ne.symm e1)]
    rw [e]
    exact h
section
variable {X : Cx}
def rGtP (K : PySem.W.Frag) : R2 := fun x y H Q => ∃ (a b : Addr) (p q : Int × Int), x = .ref a ∧ y = .ref b ∧ SqT K H a [.int p.1, .int p.2] ∧ SqT K H b [.int q.1, .int q.2] ∧ Q (.bl (lexI q p)) H
theorem pairAt_of {pins : List (Addr × Obj)} {σ : St} {H : Hp} {s : Shared} (I : Inv X pins σ H s) {a : Addr} {p : Int × Int} (h : SqT X.K H a [.int p.1, .int p.2]) : PairAt s.heap (.ref a) p := by
  obtain ⟨its, rv, pl, _⟩ := I.tuple h
  obtain ⟨v1, v2, rfl, ⟨t1, rfl⟩, ⟨t2, rfl⟩⟩ := rv.two
  obtain ⟨o, ho, hc, n, hd⟩ := pl
  exact ⟨a, o, t1, t2, n, rfl, ho, hc, hd⟩
theorem op_gtP (hu : X.A.units < cLine) : OpR X (compareOp .Gt) (rGtP X.K) := by
  intro pins s σ H x y v u Q I rx ry h
  obtain ⟨a, b, p, q, rfl, rfl, h1, h2, hq⟩ := h
  cases rx
  cases ry
  exact gtAt_pair hu (pairAt_of I h1) (pairAt_of I h2) X.prog X.w X.xe _ ⟨.bl _, H, I, rfl, hq⟩
end
end L2
namespace My
open PySem L2
def top (i : Nat) : Stmt := PySem.Challenge.pw_pairlings_k15_texts_refused.main.body.getD i (.Pass ⟨0, 0, 0, 0⟩)
abbrev sCell : Stmt := top 20
abbrev sWhole : Stmt := top 21
abbrev sChoice : Stmt := top 22
abbrev sWalk : Stmt := top 23
abbrev sOfWalk : Stmt := top 24
abbrev sPoints : Stmt := top 25
abbrev sDrawn : Stmt := top 26
abbrev sLooked : Stmt := top 9
abbrev sRWrong : Stmt := top 10
abbrev sRShared : Stmt := top 11
abbrev sRUnsorted : Stmt := top 12
abbrev sPointsIn : Stmt := top 13
abbrev sSpoiled : Stmt := top 33
abbrev sLaw : Stmt := top 34
abbrev sIsRows : Stmt := top 28
abbrev sIsPairing : Stmt := top 27
abbrev sLNumber : Stmt := top 29
abbrev sRead : Stmt := top 15
abbrev sPointsInWord : Stmt := top 16
abbrev sPairInWord : Stmt := top 17
abbrev sNumberInWord : Stmt := top 18
abbrev sLDue : Stmt := top 30
abbrev sLOdd : Stmt := top 31
abbrev sLTold : Stmt := top 32
end My
namespace My
open PySem L2 Pl

/-- a def of the text: its function, its name at the top, how it binds -/
structure Glb (K : PySem.W.Frag) (mg : Str → Option Value) (nm : Str) (ps : List Str) (st : Stmt) (f : Addr) (fd : FuncData) : Prop where
  fn : Fun K nm nm st f fd
  mgf : mg nm = some (.ref f)
  bd : Binds K fd ps []

/-! ### data -/
def encS : Stp → V
  | .lone => .str "lone"
  | .opn => .str "open"
  | .num k => .int k
def PrT (H : Hp) (v : V) (p : Nat × Nat) : Prop := ∃ a, v = .ref a ∧ H a = some (.tup [.int p.1, .int p.2])
theorem PrT.same {H H' : Hp} {v : V} {p : Nat × Nat} (s : Same H H') : PrT H v p → PrT H' v p := fun ⟨a, e, h⟩ => ⟨a, e, s _ _ h⟩
theorem prs_same {H H' : Hp} {qs : List V} {ps : List (Nat × Nat)} (s : Same H H') (h : Paired (PrT H) qs ps) : Paired (PrT H') qs ps := L2.Paired.mapP h fun _ _ r => r.same s
/-- a pairing -/
def IsP (H : Hp) (v : V) (n : Nat) (ps : List (Nat × Nat)) : Prop := ∃ t tp qs, v = .ref t ∧ H t = some (.tup [.int n, .ref tp]) ∧ H tp = some (.tup qs) ∧ Paired (PrT H) qs ps
theorem IsP.same {H H' : Hp} {v : V} {n : Nat} {ps : List (Nat × Nat)} (s : Same H H') : IsP H v n ps → IsP H' v n ps := fun ⟨t, tp, qs, e, h1, h2, h3⟩ => ⟨t, tp, qs, e, s _ _ h1, s _ _ h2, prs_same s h3⟩
theorem same_upd {H : Hp} {a : Addr} {o : HO} (h : H a = none) : Same H (upd H a o) := fun b u e => by rw [upd_ne (ne_of_none e h)]; exact e
theorem same_upd2 {H H' : Hp} {a : Addr} {o : HO} (s : Same H H') (h : H a = none) : Same H (upd H' a o) := fun b u e => by rw [upd_ne (ne_of_none e h)]; exact s b u e
theorem prt_upd {H : Hp} {a : Addr} {xs : List V} {o : HO} {qs : List V} {ps : List (Nat × Nat)} (h : H a = some (.lst xs)) (p : Paired (PrT H) qs ps) : Paired (PrT (upd H a o)) qs ps := L2.Paired.mapP p fun v q ⟨b, e, hb⟩ => ⟨b, e, by
  rw [upd_ne (ne_of hb h (by intro z; cases z))]; exact hb⟩
theorem at_nat {α : Type} {xs : List α} {j : Nat} {v : α} (h : xs[j]? = some v) : atI xs (j : Int) = some v := atI_nat h

/-- an append that may be left out -/
theorem app_if {K : PySem.W.Frag} {b : Bool} {x : V} {j : Nat} {σ : St} {H0 : Hp} {ls : Addr} {xs : List V} {D : Ends} (hσ : σ[j]? = some (some (.ref ls))) (hz : xs.length < sizeLine) (h : D.nx σ (upd H0 ls (.lst (xs ++ if b = true then [x] else [])))) :
    if b = true then tDrop (tBM K "list" rAppend (tVar j) (tCons (tC x) tNil)) D σ (upd H0 ls (.lst xs)) else tNext D σ (upd H0 ls (.lst xs)) := by
  cases b with
  | true => exact iteT ⟨_, hσ, .inl ⟨rfl, _, SqL.of upd_same⟩, ls, _, _, rfl, rfl, upd_same, hz, by rw [upd_upd]; exact h⟩
  | false =>
    rw [if_neg Bool.false_ne_true, List.append_nil] at h
    exact iteF h

section
variable {P : Program} {w : World} {K : PySem.W.Frag} {mg : Str → Option Value} {base : Heap}

/-! ### _law_cell_at -/
def spCell (K : PySem.W.Frag) : Sp := fun vs H Q _ => ∃ (a : Addr) (ns : List Int) (k : Nat), vs = [.ref a, .int k] ∧ SqL K H a (ns.map V.int) ∧ ∀ n : Int, Q (.int n) H
theorem scCell : FnScope ["script", "k"] ["script", "k"] (defScope sCell) := ⟨rfl, rfl, rfl, by decide +kernel, rfl, by decide +kernel, by decide +kernel⟩
theorem ok_cell {f : Addr} {fd : FuncData} (G : Glb K mg "_law_cell_at" ["script", "k"] sCell f fd) (n_len : mg "len" = none) : FnOk P w K mg base CX0 1 f fd ["script", "k"] (spCell K) := by
  refine G.fn.ok scCell (fun vs H Q E h => ?_) (fun cdv A outer s H vs Q E hr h => ?_)
  · obtain ⟨a, ns, k, rfl, _⟩ := h; rfl
  · obtain ⟨a, ns, k, rfl, hS, q⟩ := h
    refine ⟨_, pss_cons (ps_if (pt_cmpR op_lt (pv 1) (pe_callB call_len_seq (by rfl) n_len PySem.boot_len (pa_cons (pv 0) pa_nil)) (nomark _)) (pss_one (ps_ret (pe_ix ix_list (pv 0) (pv 1) (fun _ _ => rfl)))) pss_nil) (pss_one (ps_ret pe_int)), ?_⟩
    refine ⟨_, rfl, _, rfl, a, _, rfl, .inl hS, _, _, rfl, rfl, _, rfl, ?_⟩
    refine ite2 (fun c => ?_) (fun _ => q 0)
    have hk : k < ns.length := by simpa using c
    exact ⟨_, rfl, _, rfl, a, _, k, .int ns[k], rfl, rfl, hS, at_nat (by simp [hk]), q _⟩

/-! ### _law_choice -/
def spChoice : Sp := fun vs H Q _ => ∃ (a : Addr) (c : Int) (p : Bool) (m : Nat), vs = [.ref a, .int m] ∧ H a = some (.lst [.int c, .bl p]) ∧ 0 < m ∧ m ≤ 1000 ∧ (p = false → 0 ≤ c ∧ c < 2147483647) ∧
  ∀ (r : Nat) (c' : Int), r < m → (p = false → 0 ≤ c' ∧ c' < 2147483647) → Q (.int r) (upd H a (.lst [.int c', .bl p]))
theorem scChoice : FnScope ["state", "many", "found", "mixed"] ["state", "many"] (defScope sChoice) := ⟨rfl, rfl, rfl, by decide +kernel, rfl, by decide +kernel, by decide +kernel⟩
theorem ok_choice {f : Addr} {fd : FuncData} (G : Glb K mg "_law_choice" ["state", "many"] sChoice f fd) : FnOk P w K mg base CX0 1 f fd ["state", "many"] spChoice := by
  refine G.fn.ok scChoice (fun vs H Q E h => ?_) (fun cdv A outer s H vs Q E hr h => ?_)
  · obtain ⟨a, c, p, m, rfl, _⟩ := h; rfl
  · obtain ⟨a, c, p, m, rfl, hS, h0, h1, hp, q⟩ := h
    have nd := scChoice.nd
    refine ⟨_, pss_cons (ps_if (pt_val (pe_ix ix_list (pv 0) pe_int (fun _ _ => rfl)))
        (pss_cons (ps_set (i := 2) nd rfl (Or.inl rfl) (pe_op op_mod (pe_ix ix_list (pv 0) pe_int (fun _ _ => rfl)) (pv 1)))
        (pss_cons (ps_asg (pe_op op_fdiv (pe_ix ix_list (pv 0) pe_int (fun _ _ => rfl)) (pv 1)) (pg_sub (pv 0) pe_int set_list))
        (pss_one (ps_ret (pv 2))))) pss_nil)
      (pss_cons (ps_asg (pe_op op_mod (pe_op op_add (pe_op op_mul (pe_ix ix_list (pv 0) pe_int (fun _ _ => rfl)) pe_int) pe_int) pe_int) (pg_sub (pv 0) pe_int set_list))
      (pss_cons (ps_set (i := 3) nd rfl (Or.inl rfl) (pe_op op_mod (pe_op op_add (pe_op op_add (pe_op op_mul (pe_ix ix_list (pv 0) pe_int (fun _ _ => rfl)) (pe_ix ix_list (pv 0) pe_int (fun _ _ => rfl))) (pe_op op_mul pe_int (pe_ix ix_list (pv 0) pe_int (fun _ _ => rfl)))) pe_int) pe_int))
      (pss_one (ps_ret (pe_op op_mod (pe_op op_fdiv (pv 3) pe_int) (pv 1)))))), ?_⟩
    refine ⟨_, rfl, a, _, 1, .bl p, rfl, rfl, SqL.of hS, rfl, p, rfl, ?_⟩
    cases p with
    | true =>
      refine iteT ?_
      refine ⟨_, rfl, a, _, 0, .int c, rfl, rfl, SqL.of hS, rfl, _, rfl, _, _, rfl, rfl, (by omega), ?_⟩
      refine ⟨_, rfl, a, _, 0, .int c, rfl, rfl, SqL.of hS, rfl, _, rfl, _, _, rfl, rfl, ⟨by omega, by omega⟩, _, rfl, a, _, 0, 0, rfl, rfl, hS, rfl, ?_⟩
      refine ⟨_, rfl, ?_⟩
      have hm : c % (m : Int) = ((c % (m : Int)).toNat : Int) := (Int.toNat_of_nonneg (Int.emod_nonneg _ (by omega))).symm
      show Q (.int (c % (m : Int))) _
      rw [hm]
      exact q _ _ (by have := Int.emod_lt_of_pos c (show (0 : Int) < m by omega); omega) (by simp)
    | false =>
      obtain ⟨c0, c1⟩ := hp rfl
      refine iteF ?_
      refine ⟨_, rfl, a, _, 0, .int c, rfl, rfl, SqL.of hS, rfl, _, _, rfl, rfl, .inr ⟨by decide, by decide⟩, _, _, rfl, rfl, _, _, rfl, rfl, (by show (0 : Int) < 2147483647; decide), _, rfl, a, _, 0, 0, rfl, rfl, hS, rfl, ?_⟩
      have hd0 : 0 ≤ (c * 48271 + 29) % 2147483647 := Int.emod_nonneg _ (by decide)
      have hd1 : (c * 48271 + 29) % 2147483647 < 2147483647 := Int.emod_lt_of_pos _ (by decide)
      obtain ⟨d, hd⟩ : ∃ d : Int, (c * 48271 + 29) % 2147483647 = d := ⟨_, rfl⟩
      rw [hd] at hd0 hd1
      have hS2 : (upd H a (.lst [.int ((c * 48271 + 29) % 2147483647), .bl false])) a = some (.lst [.int d, .bl false]) := by rw [hd]; exact upd_same
      refine ⟨_, rfl, a, _, 0, .int d, rfl, rfl, SqL.of hS2, rfl, _, rfl, a, _, 0, .int d, rfl, rfl, SqL.of hS2, rfl, _, _, rfl, rfl, .inl ⟨by omega, by omega⟩,
        _, rfl, a, _, 0, .int d, rfl, rfl, SqL.of hS2, rfl, _, _, rfl, rfl, .inl ⟨by decide, by decide⟩, _, _, rfl, rfl, _, _, rfl, rfl, _, _, rfl, rfl, (by show (0 : Int) < 2147483629; decide), ?_⟩
      refine ⟨_, rfl, _, _, rfl, rfl, ⟨by decide, by decide⟩, _, rfl, _, _, rfl, rfl, (by show (0 : Int) < m; omega), ?_⟩
      obtain ⟨z, hz⟩ : ∃ z : Int, (d * d + 39373 * d + 7) % 2147483629 / 8 = z := ⟨_, rfl⟩
      have hm : z % (m : Int) = ((z % (m : Int)).toNat : Int) := (Int.toNat_of_nonneg (Int.emod_nonneg _ (by omega))).symm
      show Q (.int ((d * d + 39373 * d + 7) % 2147483629 / 8 % (m : Int))) (upd H a (.lst [.int ((c * 48271 + 29) % 2147483647), .bl false]))
      rw [hz, hm, hd]
      exact q _ d (by have := Int.emod_lt_of_pos z (show (0 : Int) < m by omega); omega) fun _ => ⟨hd0, hd1⟩

/-! ### _law_points -/
def spPoints : Sp := fun vs H Q _ => ∃ (c : Int) (m : Nat), vs = [.int c, .int m] ∧ m ≤ 60 ∧ ∀ r : Nat, r ≤ 60 → Q (.int r) H
theorem scPoints : FnScope ["cell", "most"] ["cell", "most"] (defScope sPoints) := ⟨rfl, rfl, rfl, by decide +kernel, rfl, by decide +kernel, by decide +kernel⟩
theorem ok_points {f : Addr} {fd : FuncData} (G : Glb K mg "_law_points" ["cell", "most"] sPoints f fd) : FnOk P w K mg base CX0 1 f fd ["cell", "most"] spPoints := by
  refine G.fn.ok scPoints (fun vs H Q E h => ?_) (fun cdv A outer s H vs Q E hr h => ?_)
  · obtain ⟨c, m, rfl, _⟩ := h; rfl
  · obtain ⟨c, m, rfl, h1, q⟩ := h
    refine ⟨_, pss_cons (ps_if (pt_cmpR op_eq (pe_op op_mod (pe_op op_fdiv (pv 0) pe_int) pe_int) pe_int (nomark _)) (pss_one (ps_ret (pe_op op_mod (pe_op op_fdiv (pv 0) pe_int) pe_int))) pss_nil) (pss_one (ps_ret (pe_op op_mod (pv 0) (pe_op op_add (pv 1) pe_int)))), ?_⟩
    refine ⟨_, rfl, _, _, rfl, rfl, ⟨by decide, by decide⟩, _, _, rfl, rfl, (by show (0 : Int) < 8; decide), rfl, _, rfl, ?_⟩
    have fin : ∀ (z : Int) (k : Nat), 0 < k → k ≤ 61 → Q (.int (z % (k : Int))) H := fun z k h0 hk => by
      have hm : z % (k : Int) = ((z % (k : Int)).toNat : Int) := (Int.toNat_of_nonneg (Int.emod_nonneg _ (by omega))).symm
      rw [hm]
      exact q _ (by have := Int.emod_lt_of_pos z (show (0 : Int) < k by omega); omega)
    refine ite2 (fun _ => ?_) (fun _ => ?_)
    · exact ⟨_, rfl, _, _, rfl, rfl, ⟨by decide, by decide⟩, _, _, rfl, rfl, (by show (0 : Int) < 61; decide), fin _ 61 (by decide) (by decide)⟩
    · exact ⟨_, rfl, _, rfl, _, _, rfl, rfl, _, _, rfl, rfl, (by show (0 : Int) < (m : Int) + 1; omega), fin _ (m + 1) (by omega) (by omega)⟩

/-! ### _law_walk -/
def spWalk : Sp := fun vs H Q _ => ∃ (c : Int) (n : Nat) (p : Bool), vs = [.int c, .int n, .bl p] ∧ n ≤ 60 ∧
  ∀ (l : Addr) (ws : List Stp) (H' : Hp), H l = none → Walk ws → ws.length = n → H' l = some (.lst (ws.map encS)) → Same H H' → Q (.ref l) H'
theorem scWalk : FnScope ["cell", "points", "plain", "state", "walk", "height", "left", "some", "step"] ["cell", "points", "plain"] (defScope sWalk) := ⟨rfl, rfl, rfl, by decide +kernel, rfl, by decide +kernel, by decide +kernel⟩
theorem enc_ne (k : Nat) (x : Str) : ¬ (V.int k = V.str x) := fun z => by cases z
theorem ok_walk {f fC : Addr} {fd fdC : FuncData} (G : Glb K mg "_law_walk" ["cell", "points", "plain"] sWalk f fd) (GC : Glb K mg "_law_choice" ["state", "many"] sChoice fC fdC)
    (n_len : mg "len" = none) (n_range : mg "range" = none) (n_list : mg "list" = none) : FnOk P w K mg base CX0 2 f fd ["cell", "points", "plain"] spWalk := by
  have FC : FnOk P w K mg base CX0 1 fC fdC ["state", "many"] spChoice := ok_choice GC
  refine G.fn.ok scWalk (fun vs H Q E h => ?_) (fun cdv A outer s H vs Q E hr h => ?_)
  · obtain ⟨c, n, p, rfl, _⟩ := h; rfl
  · obtain ⟨c, n, p, rfl, hn, q⟩ := h
    have nd := scWalk.nd
    refine ⟨_, pss_cons (ps_set (i := 3) nd rfl (Or.inl rfl) (pe_lst (pa_cons (pv 0) (pa_cons (pv 2) pa_nil))))
      (pss_cons (ps_if (pt_not (pt_val (pv 2))) (pss_one (ps_asg (pe_op op_mod (pv 0) pe_int) (pg_sub (pv 3) pe_int set_list))) pss_nil)
      (pss_cons (ps_set (i := 4) nd rfl (Or.inl rfl) (pe_lst pa_nil))
      (pss_cons (ps_set (i := 5) nd rfl (Or.inl rfl) pe_int)
      (pss_cons (ps_for PassesOwn.never rfl (pi_down rfl n_range (pa_cons (pe_op op_sub (pv 1) pe_int) (pa_cons (pe_un un_neg pe_int) (pa_cons (pe_un un_neg pe_int) pa_nil)))) (pg_name (i := 6) nd rfl (Or.inl rfl))
        (pss_cons (ps_set (i := 7) nd rfl (Or.inl rfl) (pe_callTy (call_list_rng rfl) (by rfl) n_list PyProof.Rows.boot_list (pa_cons (pe_callTy call_rng (by rfl) n_range PyProof.Rows.boot_range (pa_cons (pv 5) pa_nil)) pa_nil)))
        (pss_cons (ps_if (pt_cmpR op_le (pv 5) (pv 6) (nomark _)) (pss_one (ps_expr (pe_bm PySem.F.plainAttrs_list PySem.F.slot_list_append PySem.F.type_list_append mt_append (pv 7) (pa_cons pe_str pa_nil)))) pss_nil)
        (pss_cons (ps_if (pt_cmpR op_lt (pv 5) (pv 6) (nomark _)) (pss_one (ps_expr (pe_bm PySem.F.plainAttrs_list PySem.F.slot_list_append PySem.F.type_list_append mt_append (pv 7) (pa_cons pe_str pa_nil)))) pss_nil)
        (pss_cons (ps_set (i := 8) nd rfl (Or.inl rfl) (pe_ix ix_list (pv 7) (pe_call FC hr rfl GC.mgf GC.fn.kp GC.bd .nil pass0 (pa_cons (pv 3) (pa_cons (pe_callB call_len_seq (by rfl) n_len PySem.boot_len (pa_cons (pv 7) pa_nil)) pa_nil))) (fun _ _ => rfl)))
        (pss_cons (ps_expr (pe_bm PySem.F.plainAttrs_list PySem.F.slot_list_append PySem.F.type_list_append mt_append (pv 4) (pa_cons (pv 8) pa_nil)))
        (pss_one (ps_if (pt_cmpR op_eq (pv 8) pe_str (nomark _)) (pss_one (ps_set (i := 5) nd rfl (Or.inl rfl) (pe_op op_add (pv 5) pe_int)))
          (pss_one (ps_if (pt_cmpR op_ne (pv 8) pe_str (nomark _)) (pss_one (ps_set (i := 5) nd rfl (Or.inl rfl) (pe_op op_sub (pv 5) pe_int))) pss_nil))))))))))
      (pss_one (ps_ret (pv 4))))))), ?_⟩
    -- state = [cell, plain]; the first cell
    refine ⟨_, rfl, _, rfl, by show 2 ≤ sizeLine; decide, fun a ha => ?_⟩
    refine ⟨_, rfl, p, rfl, ?_⟩
    -- both ways lead to a state [c', plain]
    have way : ∃ c' : Int, (p = false → 0 ≤ c' ∧ c' < 2147483647) ∧ ∀ (nx : St → Hp → Prop) (rt : VK), nx [some (.int c), some (.int n), some (.bl p), some (.ref a), none, none, none, none, none] (upd H a (.lst [.int c', .bl p])) → if (!p) = true then
        tAsg (tOp (rI (fun x j => 0 < j) fun i j => V.int (i % j)) (tVar 0) (tC (V.int 2147483647))) (gSub (tVar 3) (tC (V.int 0)) rSetL) { nx := nx, rt := rt } [some (.int c), some (.int n), some (.bl p), some (.ref a), none, none, none, none, none] (upd H a (.lst [.int c, .bl p]))
        else nx [some (.int c), some (.int n), some (.bl p), some (.ref a), none, none, none, none, none] (upd H a (.lst [.int c, .bl p])) := by
      cases p with
      | true => exact ⟨c, (fun z => by cases z), fun nx rt h => iteF h⟩
      | false => exact ⟨c % 2147483647, fun _ => ⟨Int.emod_nonneg _ (by decide), Int.emod_lt_of_pos _ (by decide)⟩, fun nx rt h => iteT ⟨_, rfl, _, _, rfl, rfl, (by show (0 : Int) < 2147483647; decide), _, rfl, a, _, 0, 0, rfl, rfl, upd_same, rfl, by rw [upd_upd]; exact h⟩⟩
    obtain ⟨c', hc', way⟩ := way
    refine way _ _ ?_
    clear way
    -- walk = []; height = 0
    refine ⟨by show 0 ≤ sizeLine; exact Nat.zero_le _, fun lw hlw => ?_⟩
    have hlw' : H lw = none := (same_upd ha).free hlw
    have nla : lw ≠ a := by
      rintro rfl
      rw [upd_same] at hlw
      cases hlw
    have nlen : ((n : Int) - 1 - -1).toNat = n := by omega
    -- the loop
    refine ⟨_, rfl, _, _, rfl, rfl, _, rfl, _, rfl, (n : Int) - 1, -1, rfl, ⟨by omega, by omega, by omega, by omega⟩, ?_⟩
    rw [nlen]
    refine for_step (fun i σ H2 => ∃ (ws : List Stp) (d : Int) (v6 v7 v8 : Option V), σ = [some (.int c), some (.int n), some (.bl p), some (.ref a), some (.ref lw), some (.int (hgt ws)), v6, v7, v8] ∧ ws.length = i ∧ Val ws ∧ hgt ws + i ≤ n ∧
      H2 a = some (.lst [.int d, .bl p]) ∧ (p = false → 0 ≤ d ∧ d < 2147483647) ∧ H2 lw = some (.lst (ws.map encS)) ∧ Same H H2) ?_ ?_ ?_
    · exact ⟨[], c', none, none, none, rfl, rfl, Val.nil, Nat.zero_le _, by rw [upd_ne nla.symm, upd_same], hc', upd_same, same_upd2 (same_upd ha) hlw'⟩
    · rintro i σ H2 hi ⟨ws, d, v6, v7, v8, rfl, hl, hv, hh, h1, h2, h3, h4⟩
      -- some = list(range(height))
      refine ⟨_, rfl, (hgt ws : Int), rfl, fun pr hpr => ⟨pr, (hgt ws : Int), rfl, upd_same, by omega, by omega, fun ls hls => ?_⟩⟩
      have nsp : ls ≠ pr := by
        rintro rfl
        rw [upd_same] at hls
        cases hls
      have nls : H2 ls = none := by rw [upd_ne nsp] at hls; exact hls
      have nsa : ls ≠ a := (ne_of_none h1 nls).symm
      have nsw : ls ≠ lw := (ne_of_none h3 nls).symm
      have npa : pr ≠ a := (ne_of_none h1 hpr).symm
      have npw : pr ≠ lw := (ne_of_none h3 hpr).symm
      have fpr : H pr = none := h4.free hpr
      have fls : H ls = none := h4.free nls
      have hL0 : (List.range ((hgt ws : Nat) : Int).toNat).map (fun (i : Nat) => V.int i) = ((List.range (hgt ws)).map Stp.num).map encS := by simp [encS]
      rw [hL0]
      -- the two appends
      refine ⟨_, rfl, _, rfl, _, _, rfl, rfl, _, rfl, app_if rfl (small1000 (by simp; omega)) ?_⟩
      refine ⟨_, rfl, _, rfl, _, _, rfl, rfl, _, rfl, app_if rfl (small1000 (by split <;> simp <;> omega)) ?_⟩
      obtain ⟨os, hos, hne, hle, hmem⟩ : ∃ os : List Stp, ((List.range (hgt ws)).map Stp.num).map encS ++ (if decide ((hgt ws : Int) ≤ (n : Int) - 1 + i * -1) = true then [V.str "lone"] else []) ++ (if decide ((hgt ws : Int) < (n : Int) - 1 + i * -1) = true then [V.str "open"] else []) = os.map encS ∧
          0 < os.length ∧ os.length ≤ 1000 ∧ ∀ x ∈ os, (x = .lone → hgt ws + i + 1 ≤ n) ∧ (x = .opn → hgt ws + i + 1 < n) ∧ ∀ k, x = .num k → k < hgt ws := by
        refine ⟨(List.range (hgt ws)).map Stp.num ++ (if hgt ws + i + 1 ≤ n then [Stp.lone] else []) ++ (if hgt ws + i + 1 < n then [Stp.opn] else []), ?_, ?_, ?_, ?_⟩
        · have e1 : decide ((hgt ws : Int) ≤ (n : Int) - 1 + i * -1) = decide (hgt ws + i + 1 ≤ n) := by apply decide_eq_decide.mpr; omega
          have e2 : decide ((hgt ws : Int) < (n : Int) - 1 + i * -1) = decide (hgt ws + i + 1 < n) := by apply decide_eq_decide.mpr; omega
          rw [e1, e2]
          simp only [decide_eq_true_eq, List.map_append]
          congr 1
          · congr 1
            split <;> rfl
          · split <;> rfl
        · simp only [List.length_append, List.length_map, List.length_range]
          split <;> split <;> simp <;> omega
        · simp only [List.length_append, List.length_map, List.length_range]
          split <;> split <;> simp <;> omega
        · intro x hx
          rcases List.mem_append.mp hx with hx | hx
          · rcases List.mem_append.mp hx with hx | hx
            · obtain ⟨k, hk, rfl⟩ := List.mem_map.mp hx
              exact ⟨(fun z => by cases z), (fun z => by cases z), fun k' z => by cases z; exact List.mem_range.mp hk⟩
            · split at hx
              · rw [List.mem_singleton.mp hx]
                exact ⟨fun _ => by assumption, (fun z => by cases z), (fun k' z => by cases z)⟩
              · cases hx
          · split at hx
            · rw [List.mem_singleton.mp hx]
              exact ⟨(fun z => by cases z), fun _ => by assumption, (fun k' z => by cases z)⟩
            · cases hx
      rw [hos]
      have hsa : ∀ o, (upd (upd H2 pr (HO.rng 0 (hgt ws))) ls o) a = some (.lst [.int d, .bl p]) := fun o => by rw [upd_ne nsa.symm, upd_ne npa.symm]; exact h1
      -- step = some[_law_choice(state, len(some))]
      refine ⟨_, rfl, _, rfl, _, rfl, ls, _, rfl, .inl (SqL.of upd_same), a, d, p, (os.map encS).length, rfl, hsa _, by simpa using hne, by simpa using hle, h2, fun r d' hr' hd' => ?_⟩
      rw [List.length_map] at hr'
      obtain ⟨x, hx⟩ : ∃ x, os[r]? = some x := ⟨os[r], List.getElem?_eq_getElem hr'⟩
      refine ⟨ls, _, r, encS x, rfl, rfl, SqL.of (by rw [upd_ne nsa, upd_same]), at_nat (by rw [List.getElem?_map, hx]; rfl), ?_⟩
      obtain ⟨hx1, hx2, hx3⟩ := hmem x (List.mem_of_getElem? hx)
      -- walk.append(step)
      have hw5 : (upd (upd (upd H2 pr (HO.rng 0 (hgt ws))) ls (.lst (os.map encS))) a (.lst [.int d', .bl p])) lw = some (.lst (ws.map encS)) := by rw [upd_ne nla, upd_ne nsw.symm, upd_ne npw.symm]; exact h3
      refine ⟨_, rfl, .inl ⟨rfl, _, SqL.of hw5⟩, _, rfl, lw, _, _, rfl, rfl, hw5, small1000 (by rw [List.length_map]; omega), ?_⟩
      have ha6 : ∀ o, (upd (upd (upd (upd H2 pr (HO.rng 0 (hgt ws))) ls (.lst (os.map encS))) a (.lst [.int d', .bl p])) lw o) a = some (.lst [.int d', .bl p]) := fun o => by rw [upd_ne nla.symm, upd_same]
      have hs6 : ∀ o, Same H (upd (upd (upd (upd H2 pr (HO.rng 0 (hgt ws))) ls (.lst (os.map encS))) a (.lst [.int d', .bl p])) lw o) := fun o => same_upd2 (same_upd2 (same_upd2 (same_upd2 h4 fpr) fls) ha) hlw'
      have hw6 : ws.map encS ++ [encS x] = (ws ++ [x]).map encS := by simp
      rw [hw6]
      cases x with
      | lone =>
        refine ⟨_, rfl, rfl, _, rfl, ite2 (fun z => absurd (of_decide_eq_true z) (by decide)) (fun _ => ?_)⟩
        refine ⟨_, rfl, rfl, _, rfl, ite2 (fun z => absurd z (by decide)) (fun _ => ?_)⟩
        exact ⟨ws ++ [.lone], d', _, _, _, by rw [hgt_lone]; rfl, by simp [hl], hv.snoc (fun k z => by cases z), by rw [hgt_lone]; have := hx1 rfl; omega, ha6 _, hd', upd_same, hs6 _⟩
      | opn =>
        refine ⟨_, rfl, rfl, _, rfl, ite2 (fun _ => ?_) (fun z => absurd (by decide) z)⟩
        refine ⟨_, rfl, _, _, rfl, rfl, ?_⟩
        exact ⟨ws ++ [.opn], d', _, _, _, by rw [hgt_opn]; rfl, by simp [hl], hv.snoc (fun k z => by cases z), by rw [hgt_opn]; have := hx2 rfl; omega, ha6 _, hd', upd_same, hs6 _⟩
      | num k =>
        have hk := hx3 k rfl
        have e := hgt_num hv hk
        refine ⟨_, rfl, rfl, _, rfl, ite2 (fun z => absurd (of_decide_eq_true z) (enc_ne _ _)) (fun _ => ?_)⟩
        refine ⟨_, rfl, rfl, _, rfl, ite2 (fun _ => ?_) (fun z => absurd (show (!decide (V.int k = V.str "lone")) = true by rw [decide_eq_false (enc_ne _ _)]; rfl) z)⟩
        refine ⟨_, rfl, _, _, rfl, rfl, ?_⟩
        exact ⟨ws ++ [.num k], d', _, _, _, by rw [show ((hgt (ws ++ [.num k]) : Nat) : Int) = (hgt ws : Int) - 1 by omega]; rfl, by simp [hl], hv.snoc (fun k' z => by cases z; exact hk), by omega, ha6 _, hd', upd_same, hs6 _⟩
    · rintro σ H2 ⟨ws, d, v6, v7, v8, rfl, hl, hv, hh, h1, h2, h3, h4⟩
      exact ⟨_, rfl, q lw ws H2 hlw' ⟨hv, by omega⟩ hl h3 h4⟩
end
end My
namespace My
open PySem L2 Pl
/-! ### _law_of_walk -/
def cast2 (p : Nat × Nat) : Int × Int := ((p.1 : Int), (p.2 : Int))
theorem lexI_cast (a b : Nat × Nat) : lexI (cast2 a) (cast2 b) = lexb a b := by
  unfold lexI lexb cast2
  by_cases e : a.1 = b.1
  · simp [e]
  · have e' : ¬ ((a.1 : Int) = (b.1 : Int)) := by omega
    rw [if_neg e']
    simp [e]
theorem cast_back {rs : List (Int × Int)} {q : List (Nat × Nat)} (h : rs.Perm (q.map cast2)) : ∃ ps : List (Nat × Nat), rs = ps.map cast2 ∧ ps.Perm q := by
  refine ⟨rs.map fun p => (p.1.toNat, p.2.toNat), ?_, ?_⟩
  · rw [List.map_map]
    have e : ∀ p ∈ rs, (cast2 ∘ fun p : Int × Int => (p.1.toNat, p.2.toNat)) p = p := fun p hp => by
      obtain ⟨z, _, rfl⟩ := List.mem_map.mp (h.mem_iff.mp hp)
      simp [cast2]
    exact (List.map_congr_left e).symm ▸ (List.map_id _).symm
  · have := h.map fun p => (p.1.toNat, p.2.toNat)
    rw [List.map_map] at this
    have e : ((fun p : Int × Int => (p.1.toNat, p.2.toNat)) ∘ cast2) = id := by funext p; simp [cast2]
    rw [e, List.map_id] at this
    exact this
def spOfWalk : Sp := fun vs H Q _ => ∃ (l : Addr) (ws : List Stp), vs = [.ref l] ∧ H l = some (.lst (ws.map encS)) ∧ Walk ws ∧ ws.length ≤ 60 ∧
  ∀ (v : V) (ps : List (Nat × Nat)) (H' : Hp), Same H H' → IsP H' v ws.length ps → ps.Perm (runW ws).q → ps.Pairwise (fun a b => lexb b a = false) → Q v H'
theorem scOfWalk : FnScope ["walk", "open_ones", "pairs", "point", "start"] ["walk"] (defScope sOfWalk) := ⟨rfl, rfl, rfl, by decide +kernel, rfl, by decide +kernel, by decide +kernel⟩
section
variable {P : Program} {w : World} {K : PySem.W.Frag} {mg : Str → Option Value} {base : Heap}
theorem ok_ofWalk {f : Addr} {fd : FuncData} (G : Glb K mg "_law_of_walk" ["walk"] sOfWalk f fd)
    (n_len : mg "len" = none) (n_range : mg "range" = none) (n_tuple : mg "tuple" = none) (n_sorted : mg "sorted" = none) : FnOk P w K mg base CX0 1 f fd ["walk"] spOfWalk := by
  refine G.fn.ok scOfWalk (fun vs H Q E h => ?_) (fun cdv A outer s H vs Q E hr h => ?_)
  · obtain ⟨l, ws, rfl, _⟩ := h; rfl
  · obtain ⟨l, ws, rfl, hS, hW, hl60, q⟩ := h
    have nd := scOfWalk.nd
    refine ⟨_, pss_cons (ps_set (i := 1) nd rfl (Or.inl rfl) (pe_lst pa_nil))
      (pss_cons (ps_set (i := 2) nd rfl (Or.inl rfl) (pe_lst pa_nil))
      (pss_cons (ps_for PassesOwn.never rfl (pi_range1 rfl n_range (pa_cons (pe_callB call_len_seq (by rfl) n_len PySem.boot_len (pa_cons (pv 0) pa_nil)) pa_nil)) (pg_name (i := 3) nd rfl (Or.inl rfl))
        (pss_one (ps_if (pt_cmpR op_eq (pe_ix ix_list (pv 0) (pv 3) (fun _ _ => rfl)) pe_str (nomark _))
          (pss_one (ps_expr (pe_bm PySem.F.plainAttrs_list PySem.F.slot_list_append PySem.F.type_list_append mt_append (pv 1) (pa_cons (pv 3) pa_nil))))
          (pss_one (ps_if (pt_cmpR op_ne (pe_ix ix_list (pv 0) (pv 3) (fun _ _ => rfl)) pe_str (nomark _))
            (pss_cons (ps_set (i := 4) nd rfl (Or.inr rfl) (pe_ix ix_list (pv 1) (pe_ix ix_list (pv 0) (pv 3) (fun _ _ => rfl)) (fun _ _ => rfl)))
            (pss_cons (ps_comp (i := 1) (js := [4]) (ys := ["start"]) (cl := [("start", s.heap.objs.size + 1)]) (by exact ⟨rfl, by decide +kernel, by decide +kernel, rfl, rfl, .cons rfl rfl rfl rfl .nil, fun _ _ h => h, has_of (List.forall_mem_cons.mpr ⟨(fun z => by rcases z with z | z <;> cases z), List.forall_mem_cons.mpr ⟨(fun z => by rcases z with z | z <;> cases z), List.forall_mem_cons.mpr ⟨fun _ => ⟨_, rfl⟩, fun _ h => nomatch h⟩⟩⟩), by decide +kernel⟩) rfl nd rfl rfl (pi_list (pv 1))
              (fun C s H fp => pif_one (pt_cmpR op_ne (pv 0) (pv 1) (nomark _))) (fun C s H fp => pv 0) rfl)
            (pss_one (ps_expr (pe_bm PySem.F.plainAttrs_list PySem.F.slot_list_append PySem.F.type_list_append mt_append (pv 2) (pa_cons (pe_tup (pa_cons (pv 4) (pa_cons (pv 3) pa_nil))) pa_nil))))))
            pss_nil)))))
      (pss_one (ps_ret (pe_tup (pa_cons (pe_callB call_len_seq (by rfl) n_len PySem.boot_len (pa_cons (pv 0) pa_nil)) (pa_cons (pe_callTy call_tuple_of (by rfl) n_tuple PyProof.Rows.boot_tuple (pa_cons (pe_callB call_sortedP (by rfl) n_sorted PyProof.Rows.boot_sorted (pa_cons (pv 2) pa_nil)) pa_nil)) pa_nil))))))), ?_⟩
    -- open_ones = []; pairs = []
    refine ⟨by show 0 ≤ sizeLine; exact Nat.zero_le _, fun lo hlo => ?_⟩
    refine ⟨by show 0 ≤ sizeLine; exact Nat.zero_le _, fun lp hlp => ?_⟩
    have nlp : lp ≠ lo := by
      rintro rfl
      rw [upd_same] at hlp
      cases hlp
    have hlp' : H lp = none := by rw [upd_ne nlp] at hlp; exact hlp
    have s0 : Same H (upd (upd H lo (.lst [])) lp (.lst [])) := same_upd2 (same_upd hlo) hlp'
    -- the loop
    refine ⟨_, rfl, l, _, rfl, .inl (SqL.of (s0 _ _ hS)), ((ws.map encS).length : Int), rfl, by omega, by rw [List.length_map]; omega, ?_⟩
    rw [show (((ws.map encS).length : Nat) : Int).toNat = ws.length by simp]
    refine for_range (lo := 0) (fun i σ H2 => ∃ (lo : Addr) (qs : List V) (v3 v4 : Option V), σ = [some (.ref l), some (.ref lo), some (.ref lp), v3, v4] ∧ H2 lo = some (.lst ((runW (ws.take i)).o.map fun (n : Nat) => V.int n)) ∧ H2 lp = some (.lst qs) ∧
      Paired (PrT H2) qs (runW (ws.take i)).q ∧ Same H H2 ∧ H lo = none ∧ lo ≠ lp) ?_ ?_ ?_
    · exact ⟨lo, [], none, none, rfl, by rw [upd_ne nlp.symm, upd_same]; rfl, upd_same, .nil, s0, hlo, nlp.symm⟩
    · rintro i σ H2 hi ⟨lo, qs, v3, v4, rfl, h1, h2, h3, h4, h5, h6⟩
      obtain ⟨x, hx⟩ : ∃ x, ws[i]? = some x := ⟨ws[i], List.getElem?_eq_getElem hi⟩
      have htk : ws.take (i + 1) = ws.take i ++ [x] := by rw [List.take_add_one, hx]; rfl
      have hrun : runW (ws.take (i + 1)) = stepW (runW (ws.take i)) x := by rw [htk, runW_snoc]
      have hp : (runW (ws.take i)).p = i := by rw [runW_p, List.length_take]; omega
      have hat : atI (ws.map encS) (0 + (i : Int)) = some (encS x) := by rw [Int.zero_add]; exact at_nat (by rw [List.getElem?_map, hx]; rfl)
      have holen : (runW (ws.take i)).o.length ≤ 60 := by
        have h := hgt_le (ws.take i)
        rw [List.length_take] at h
        unfold hgt at h
        omega
      have hqlen : qs.length ≤ 60 := by
        have h := q_le (ws.take i)
        rw [List.length_take] at h
        rw [PySem.Paired.length h3]
        omega
      cases x with
      | lone =>
        refine ⟨_, rfl, _, rfl, l, _, _, _, rfl, rfl, SqL.of (h4 _ _ hS), hat, rfl, _, rfl, ite2 (fun z => absurd (of_decide_eq_true z) (by decide)) (fun _ => ?_)⟩
        refine ⟨_, rfl, _, rfl, l, _, _, _, rfl, rfl, SqL.of (h4 _ _ hS), hat, rfl, _, rfl, ite2 (fun z => absurd z (by decide)) (fun _ => ?_)⟩
        exact ⟨lo, qs, _, _, rfl, by rw [hrun]; exact h1, h2, by rw [hrun]; exact h3, h4, h5, h6⟩
      | opn =>
        refine ⟨_, rfl, _, rfl, l, _, _, _, rfl, rfl, SqL.of (h4 _ _ hS), hat, rfl, _, rfl, ite2 (fun _ => ?_) (fun z => absurd (by decide) z)⟩
        refine ⟨_, rfl, .inl ⟨rfl, _, SqL.of h1⟩, _, rfl, lo, _, _, rfl, rfl, h1, small1000 (by rw [List.length_map]; omega), ?_⟩
        exact ⟨lo, qs, _, _, rfl, by rw [hrun, upd_same]; simp [stepW, hp], by rw [upd_ne h6.symm]; exact h2, by rw [hrun]; exact prt_upd h1 h3, same_upd2 h4 h5, h5, h6⟩
      | num k =>
        have hk : k < (runW (ws.take i)).o.length := hW.1 i k hx
        refine ⟨_, rfl, _, rfl, l, _, _, _, rfl, rfl, SqL.of (h4 _ _ hS), hat, rfl, _, rfl, ite2 (fun z => absurd (of_decide_eq_true z) (enc_ne _ _)) (fun _ => ?_)⟩
        refine ⟨_, rfl, _, rfl, l, _, _, _, rfl, rfl, SqL.of (h4 _ _ hS), hat, rfl, _, rfl, ite2 (fun _ => ?_) (fun z => absurd (show (!decide (V.int k = V.str "lone")) = true by rw [decide_eq_false (enc_ne _ _)]; rfl) z)⟩
        refine ⟨_, rfl, _, rfl, _, rfl, l, _, _, _, rfl, rfl, SqL.of (h4 _ _ hS), hat, lo, _, k, .int (runW (ws.take i)).o[k], rfl, rfl, SqL.of h1, at_nat (by simp [hk]), ?_⟩
        -- open_ones without it
        refine ⟨_, rfl, lo, rfl, ⟨_, SqL.of h1⟩, fun D hD => ?_⟩
        refine comp_list (fun v => if v = .int (runW (ws.take i)).o[k] then none else some v) (SqL.of h1) (small1000 (by rw [List.length_map]; omega)) hD (fun v hv H3 s3 R hR => ?_) fun H4 hD4 s4 => ?_
        · obtain ⟨m, _, rfl⟩ := List.mem_map.mp hv
          refine ⟨_, rfl, _, rfl, rfl, _, rfl, ite2 (fun z => ?_) (fun z => ?_)⟩
          · have e : ¬ (V.int (m : Int) = V.int ((runW (ws.take i)).o[k] : Int)) := by simpa using z
            have := hR H3 (Same.refl _)
            rw [if_neg e] at this
            exact ⟨_, rfl, this⟩
          · have e : V.int (m : Int) = V.int ((runW (ws.take i)).o[k] : Int) := by simpa using z
            have := hR H3 (Same.refl _)
            rw [if_pos e] at this
            exact this
        · have efm : ((runW (ws.take i)).o.map fun (n : Nat) => V.int n).filterMap (fun v => if v = .int ((runW (ws.take i)).o[k] : Nat) then none else some v) = ((runW (ws.take i)).o.filter (fun y => y != (runW (ws.take i)).o.getD k 0)).map fun (n : Nat) => V.int n := by
            have eg : (runW (ws.take i)).o.getD k 0 = (runW (ws.take i)).o[k] := by simp [hk]
            rw [eg]
            generalize (runW (ws.take i)).o[k] = z
            generalize (runW (ws.take i)).o = o
            induction o with
            | nil => rfl
            | cons b r ih =>
              rw [List.map_cons, List.filterMap_cons, ih]
              by_cases e : b = z
              · subst e; simp
              · have e' : ¬ (V.int (b : Int) = V.int (z : Int)) := fun q => e (by injection q with q; omega)
                rw [if_neg e', List.filter_cons_of_pos (by simpa using e)]
                rfl
          have h2' := s4 _ _ h2
          refine ⟨_, rfl, .inl ⟨rfl, _, SqL.of h2'⟩, _, rfl, _, rfl, by show 2 ≤ sizeLine; decide, fun t ht => ?_⟩
          have ntl : t ≠ lp := (ne_of_none h2' ht).symm
          have ntD : t ≠ D := (ne_of_none hD4 ht).symm
          have nDl : D ≠ lp := (ne_of_none h2 hD).symm
          have h2'' : (upd H4 t (.tup [.int (runW (ws.take i)).o[k], .int (0 + i)])) lp = some (.lst qs) := by rw [upd_ne ntl.symm]; exact h2'
          refine ⟨lp, _, _, rfl, rfl, h2'', small1000 (by omega), ?_⟩
          have fD : H D = none := h4.free hD
          have s5 : Same H H4 := h4.trans s4
          have ft : H t = none := s5.free ht
          refine ⟨D, qs ++ [.ref t], _, _, rfl, by rw [upd_ne nDl, upd_ne ntD.symm, hD4, efm, hrun]; rfl, upd_same, ?_, same_upd2 (same_upd2 s5 ft) hlp', fD, nDl⟩
          rw [hrun]
          refine Paired.snoc (prt_upd h2'' (prs_same (same_upd ht) (prs_same s4 h3))) ⟨t, rfl, ?_⟩
          rw [upd_ne ntl, upd_same, hp, Int.zero_add]
          have eg : (runW (ws.take i)).o.getD k 0 = (runW (ws.take i)).o[k] := by simp [hk]
          rw [eg]
    · rintro σ H2 ⟨lo, qs, v3, v4, rfl, h1, h2, h3, h4, h5, h6⟩
      rw [List.take_length] at h3
      have hqlen : qs.length ≤ 60 := by
        have h := q_le ws
        rw [PySem.Paired.length h3]
        omega
      refine ⟨_, rfl, l, _, rfl, .inl (SqL.of (h4 _ _ hS)), _, rfl, lp, qs, (runW ws).q.map cast2, fun v p => ∃ p', p = cast2 p' ∧ PrT H2 v p', rfl, .inl (SqL.of h2), ?_, ?_, by omega, fun ls zs rs hls hz hzp hrp hrs => ?_⟩
      · refine paired_of (by rw [List.length_map]; exact PySem.Paired.length h3) fun i v p e1 e2 => ?_
        obtain ⟨p', e3, hv⟩ := paired_get h3 e1
        rw [List.getElem?_map, e3] at e2
        cases e2
        exact ⟨p', rfl, hv⟩
      · rintro v p ⟨p', rfl, a, rfl, hv⟩
        exact ⟨a, rfl, SqT.of hv⟩
      · obtain ⟨ps, rfl, hpp⟩ := cast_back hrp
        have fls : H ls = none := h4.free hls
        have s6 : Same H (upd H2 ls (.lst zs)) := same_upd2 h4 fls
        refine ⟨ls, zs, rfl, .inl ⟨SqL.of upd_same, fun tp htp => ⟨by show 2 ≤ sizeLine; decide, fun t ht => ?_⟩⟩⟩
        have ftp : H tp = none := s6.free htp
        have s7 : Same H (upd (upd H2 ls (.lst zs)) tp (.tup zs)) := same_upd2 s6 ftp
        have ft : H t = none := s7.free ht
        have nt : t ≠ tp := by
          rintro rfl
          rw [upd_same] at ht
          cases ht
        have s8 : ∀ o, Same H2 (upd (upd (upd H2 ls (.lst zs)) tp (.tup zs)) t o) := fun o => ((same_upd hls).trans (same_upd htp)).trans (same_upd ht)
        refine q (.ref t) ps _ (same_upd2 s7 ft) ⟨t, tp, zs, rfl, by rw [upd_same, List.length_map], by rw [upd_ne nt.symm, upd_same], ?_⟩ hpp ?_
        · refine paired_of (by rw [PySem.Paired.length hz, List.length_map]) fun i v p e1 e2 => ?_
          obtain ⟨p', e3, p2, e4, hv⟩ := paired_get hz e1
          rw [List.getElem?_map, e2] at e3
          cases e3
          have : p = p2 := by
            unfold cast2 at e4
            injection e4 with x1 x2
            exact Prod.ext (by omega) (by omega)
          subst this
          exact hv.same (s8 _)
        · rw [List.pairwise_map] at hrs
          exact hrs.imp fun {a b} h => by rw [lexI_cast] at h; exact h
end
end My
namespace My
open PySem L2 Pl
section
variable {P : Program} {w : World} {K : PySem.W.Frag} {mg : Str → Option Value} {base : Heap}
/-! ### _law_drawn -/
def spDrawn (K : PySem.W.Frag) : Sp := fun vs H Q _ => ∃ (a : Addr) (ns : List Int) (k m : Nat), vs = [.ref a, .int k, .int m] ∧ SqL K H a (ns.map V.int) ∧ m ≤ 60 ∧
  ∀ (l : Addr) (ws : List Stp) (H' : Hp), H l = none → Walk ws → ws.length ≤ 60 → H' l = some (.lst (ws.map encS)) → Same H H' → Q (.ref l) H'
theorem scDrawn : FnScope ["script", "start", "most", "cell"] ["script", "start", "most"] (defScope sDrawn) := ⟨rfl, rfl, rfl, by decide +kernel, rfl, by decide +kernel, by decide +kernel⟩
theorem ok_drawn {f fC fL fP fW : Addr} {fd fdC fdL fdP fdW : FuncData} (G : Glb K mg "_law_drawn" ["script", "start", "most"] sDrawn f fd) (GC : Glb K mg "_law_choice" ["state", "many"] sChoice fC fdC) (GL : Glb K mg "_law_cell_at" ["script", "k"] sCell fL fdL)
    (GP : Glb K mg "_law_points" ["cell", "most"] sPoints fP fdP) (GW : Glb K mg "_law_walk" ["cell", "points", "plain"] sWalk fW fdW)
    (n_len : mg "len" = none) (n_range : mg "range" = none) (n_list : mg "list" = none) : FnOk P w K mg base CX0 3 f fd ["script", "start", "most"] (spDrawn K) := by
  have FL : FnOk P w K mg base CX0 2 fL fdL ["script", "k"] (spCell K) := (ok_cell GL n_len).mono (by decide)
  have FP : FnOk P w K mg base CX0 2 fP fdP ["cell", "most"] spPoints := (ok_points GP).mono (by decide)
  have FW : FnOk P w K mg base CX0 2 fW fdW ["cell", "points", "plain"] spWalk := ok_walk GW GC n_len n_range n_list
  refine G.fn.ok scDrawn (fun vs H Q E h => ?_) (fun cdv A outer s H vs Q E hr h => ?_)
  · obtain ⟨a, ns, k, m, rfl, _⟩ := h; rfl
  · obtain ⟨a, ns, k, m, rfl, hS, hm, q⟩ := h
    have nd := scDrawn.nd
    refine ⟨_, pss_cons (ps_set (i := 3) nd rfl (Or.inl rfl) (pe_call FL hr rfl GL.mgf GL.fn.kp GL.bd .nil pass0 (pa_cons (pv 0) (pa_cons (pv 1) pa_nil))))
      (pss_one (ps_ret (pe_call FW hr rfl GW.mgf GW.fn.kp GW.bd .nil pass0 (pa_cons (pe_call FL hr rfl GL.mgf GL.fn.kp GL.bd .nil pass0 (pa_cons (pv 0) (pa_cons (pe_op op_add (pv 1) pe_int) pa_nil)))
        (pa_cons (pe_call FP hr rfl GP.mgf GP.fn.kp GP.bd .nil pass0 (pa_cons (pv 3) (pa_cons (pv 2) pa_nil))) (pa_cons (pe_cmpR op_eq (pe_op op_mod (pe_op op_fdiv (pv 3) pe_int) pe_int) pe_int (nomark _)) pa_nil)))))), ?_⟩
    refine ⟨_, rfl, _, rfl, a, ns, k, rfl, hS, fun c => ?_⟩
    refine ⟨_, rfl, _, rfl, _, _, rfl, rfl, a, ns, k + 1, rfl, hS, fun c2 => ?_⟩
    refine ⟨_, rfl, _, rfl, c, m, rfl, hm, fun r hr60 => ?_⟩
    refine ⟨_, rfl, _, _, rfl, rfl, ⟨by decide, by decide⟩, _, _, rfl, rfl, (by show (0 : Int) < 2; decide), rfl, c2, r, _, rfl, hr60, fun l ws H' h1 h2 h3 h4 h5 => ?_⟩
    exact q l ws H' h1 h2 (by omega) h4 h5
/-! ### _law_whole -/
def spWhole : Sp := fun vs H Q _ => ∃ i : Int, vs = [.int i] ∧ Q (.bl true) H
theorem scWhole : FnScope ["found"] ["found"] (defScope sWhole) := ⟨rfl, rfl, rfl, by decide +kernel, rfl, by decide +kernel, by decide +kernel⟩
theorem ok_whole {f : Addr} {fd : FuncData} (G : Glb K mg "_law_whole" ["found"] sWhole f fd) (n_isi : mg "isinstance" = none) (n_int : mg "int" = none) (n_bool : mg "bool" = none) : FnOk P w K mg base CX0 1 f fd ["found"] spWhole := by
  refine G.fn.ok scWhole (fun vs H Q E h => ?_) (fun cdv A outer s H vs Q E hr h => ?_)
  · obtain ⟨i, rfl, _⟩ := h; rfl
  · obtain ⟨i, rfl, q⟩ := h
    refine ⟨_, pss_one (ps_ret (pe_and (pe_callB call_isi (by rfl) n_isi PyProof.Rows.boot_isinstance (pa_cons (pv 0) (pa_cons (pe_bltn (v := .ty "int") (by rfl) n_int PyProof.Rows.boot_int rfl) pa_nil)))
      (pe_one (pe_not (pe_callB call_isi (by rfl) n_isi PyProof.Rows.boot_isinstance (pa_cons (pv 0) (pa_cons (pe_bltn (v := .ty "bool") (by rfl) n_bool PyProof.Rows.boot_bool rfl) pa_nil))))))), ?_⟩
    refine ⟨_, rfl, _, _, _, _, rfl, .int i, rfl, true, rfl, iteT ?_⟩
    exact ⟨_, rfl, _, _, _, false, rfl, .int i, by with_unfolding_all rfl, false, rfl, q⟩
end
end My
namespace Pl
abbrev Pr := Nat × Nat
end Pl
namespace My
open PySem L2 Pl
/-! ### pairs as data -/
def encP (p : Pr) : PyData := .tuple [.int p.1, .int p.2]
theorem rp_pair {K : PySem.W.Frag} {H : Hp} {v : V} {p : Pr} (h : PrT H v p) : Rp K H v (encP p) := by
  obtain ⟨a, rfl, ha⟩ := h
  exact .tup (SqT.of ha) (.cons (.int _) (.cons (.int _) .nil))
theorem rp_pairs {K : PySem.W.Frag} {H : Hp} : ∀ {qs : List V} {ps : List Pr}, Paired (PrT H) qs ps → RpAll K H qs (ps.map encP)
  | _, _, .nil => .nil
  | _, _, .cons h r => .cons (rp_pair h) (rp_pairs r)
theorem can_pairs : ∀ ps : List Pr, PyData.canLayAll0 (ps.map encP) = true
  | [] => rfl
  | p :: r => by
    rw [List.map_cons, PyData.canLayAll0, can_pairs r]
    rfl
theorem depth_pairs : ∀ ps : List Pr, PyData.depthAll (ps.map encP) ≤ 1
  | [] => Nat.zero_le _
  | p :: r => by
    rw [List.map_cons, PyData.depthAll]
    have := depth_pairs r
    have e : (encP p).depth = 1 := rfl
    omega
/-- a list of pairs -/
def RwT (H : Hp) (v : V) (r : List Pr) : Prop := ∃ a qs, v = .ref a ∧ H a = some (.lst qs) ∧ Paired (PrT H) qs r
section
variable {P : Program} {w : World} {K : PySem.W.Frag} {mg : Str → Option Value} {base : Heap}
/-! ### _law_is_rows -/
def spIsRows : Sp := fun vs H Q _ => ∃ (fl : Addr) (v : V) (m : Nat) (ps : List Pr) (rs : List V) (rows : List (List Pr)), vs = [.ref fl, v] ∧ IsP H v m ps ∧ H fl = some (.lst rs) ∧ Paired (RwT H) rs rows ∧ (∀ r ∈ rows, r ≠ [] ∧ ∀ x ∈ r, x ∈ ps) ∧ Q (.bl true) H
end
end My
namespace My
open PySem L2 Pl
def encPg (n : Nat) (ps : List (Nat × Nat)) : PyData := .tuple [.int n, .tuple (ps.map encP)]
theorem rp_pg {K : PySem.W.Frag} {H : Hp} {v : V} {n : Nat} {ps : List (Nat × Nat)} (h : IsP H v n ps) : Rp K H v (encPg n ps) := by
  obtain ⟨t, tp, qs, rfl, ht, htp, hq⟩ := h
  exact .tup (SqT.of ht) (.cons (.int _) (.cons (.tup (SqT.of htp) (rp_pairs hq)) .nil))
theorem can_pg (n : Nat) (ps : List (Nat × Nat)) : (encPg n ps).canLay0 = true := by
  simp only [encPg, PyData.canLay0, PyData.canLayAll0, can_pairs]
  rfl
theorem depth_pg (n : Nat) (ps : List (Nat × Nat)) : (encPg n ps).depth ≤ 60 := by
  have := depth_pairs ps
  simp only [encPg, PyData.depth, PyData.depthAll]
  omega
section
variable {P : Program} {w : World} {K : PySem.W.Frag} {mg : Str → Option Value} {base : Heap}
/-! ### _law_is_pairing -/
def spIsPairing : Sp := fun vs H Q _ => ∃ (u v : V) (n : Nat) (ps : List (Nat × Nat)), vs = [u, v] ∧ IsP H u n ps ∧ IsP H v n ps ∧ Q (.bl true) H
theorem scIsPairing : FnScope ["found", "due", "pair"] ["found", "due"] (defScope sIsPairing) := ⟨rfl, rfl, rfl, by decide +kernel, rfl, by decide +kernel, by decide +kernel⟩
theorem ok_isPairing {f fWh : Addr} {fd fdWh : FuncData} (G : Glb K mg "_law_is_pairing" ["found", "due"] sIsPairing f fd) (GWh : Glb K mg "_law_whole" ["found"] sWhole fWh fdWh) (n_isi : mg "isinstance" = none) (n_int : mg "int" = none) (n_bool : mg "bool" = none) (n_tuple : mg "tuple" = none) (n_len : mg "len" = none) : FnOk P w K mg base CX0 2 f fd ["found", "due"] spIsPairing := by
  have FWh : FnOk P w K mg base CX0 1 fWh fdWh ["found"] spWhole := ok_whole GWh n_isi n_int n_bool
  refine G.fn.ok scIsPairing (fun vs H Q E h => ?_) (fun cdv A outer s H vs Q E hr h => ?_)
  · obtain ⟨u, v, n, ps, rfl, _⟩ := h; rfl
  · obtain ⟨u, v, n, ps, rfl, hu1, hv1, k⟩ := h
    have nd := scIsPairing.nd
    have hu := hr.units
    have r1 := rp_pg (K := K) hu1
    have r2 := rp_pg (K := K) hv1
    obtain ⟨t, tp, qs, rfl, ht, htp, hq⟩ := id hu1
    have hql := PySem.Paired.length hq
    refine ⟨_, (pss_cons (ps_if (PW.pt (pw_or (pt_not (pt_val (pe_callB call_isi (by rfl) n_isi PyProof.Rows.boot_isinstance (pa_cons (pv 0) (pa_cons (pe_bltn (v := .ty "tuple") (by rfl) n_tuple PyProof.Rows.boot_tuple rfl) pa_nil))))) (pw_or (pt_cmpR op_ne (pe_callB call_len_seq (by rfl) n_len PySem.boot_len (pa_cons (pv 0) pa_nil)) pe_int (nomark _)) (pw_or (pt_not (pt_val (pe_call FWh hr rfl GWh.mgf GWh.fn.kp GWh.bd .nil pass0 (pa_cons (pe_ix ix_tup (pv 0) pe_int (fun _ _ => rfl)) pa_nil)))) (pw_or1 (pt_cmpR (op_neD hu) (pv 0) (pv 1) (nomark _))))))) (pss_one (ps_ret pe_bl)) pss_nil)
      (pss_cons (ps_if (pt_not (pt_val (pe_callB call_isi (by rfl) n_isi PyProof.Rows.boot_isinstance (pa_cons (pe_ix ix_tup (pv 0) pe_int (fun _ _ => rfl)) (pa_cons (pe_bltn (v := .ty "tuple") (by rfl) n_tuple PyProof.Rows.boot_tuple rfl) pa_nil))))) (pss_one (ps_ret pe_bl)) pss_nil)
      (pss_cons (ps_for PassesOwn.never rfl (pi_tup (pe_ix ix_tup (pv 0) pe_int (fun _ _ => rfl))) (pg_name (i := 2) nd rfl (Or.inl rfl)) (pss_one (ps_if (PW.pt (pw_or (pt_not (pt_val (pe_callB call_isi (by rfl) n_isi PyProof.Rows.boot_isinstance (pa_cons (pv 2) (pa_cons (pe_bltn (v := .ty "tuple") (by rfl) n_tuple PyProof.Rows.boot_tuple rfl) pa_nil))))) (pw_or (pt_not (pt_val (pe_call FWh hr rfl GWh.mgf GWh.fn.kp GWh.bd .nil pass0 (pa_cons (pe_ix ix_tup (pv 2) pe_int (fun _ _ => rfl)) pa_nil)))) (pw_or1 (pt_not (pt_val (pe_call FWh hr rfl GWh.mgf GWh.fn.kp GWh.bd .nil pass0 (pa_cons (pe_ix ix_tup (pv 2) pe_int (fun _ _ => rfl)) pa_nil)))))))) (pss_one (ps_ret pe_bl)) pss_nil)))
      (pss_one (ps_ret pe_bl))))), ?_⟩
    refine ⟨_, rfl, _, _, _, _, rfl, .tup ht, rfl, true, rfl, iteF ?_⟩
    refine ⟨_, rfl, t, _, rfl, .inr (SqT.of ht), rfl, _, rfl, ?_⟩
    rw [show decide ((V.int (([V.int (n : Nat), V.ref tp] : List V).length : Nat) : V) = V.int 2) = true from decide_eq_true rfl]
    refine iteF ?_
    refine ⟨_, rfl, t, _, 0, _, rfl, rfl, SqT.of ht, rfl, _, rfl, true, rfl, iteF ?_⟩
    refine ⟨_, rfl, _, rfl, encPg n ps, encPg n ps, r1, r2, can_pg n ps, can_pg n ps, depth_pg n ps, _, rfl, ?_⟩
    rw [if_pos rfl, PySem.SeqAt.eqv_refl _ (can_pg n ps)]
    refine iteF ?_
    refine ⟨_, rfl, t, _, 1, _, rfl, rfl, SqT.of ht, rfl, _, _, _, _, rfl, .tup htp, rfl, true, rfl, iteF ?_⟩
    refine ⟨_, rfl, t, _, 1, _, rfl, rfl, SqT.of ht, rfl, tp, rfl, ⟨qs, SqT.of htp⟩, for_tup (xs := qs) (fun i σ H2 => ∃ (w2 : Option V), σ = [some (.ref t), some v, w2] ∧ H2 = H) ?_ ?_ ?_ ?_⟩
    · exact ⟨none, rfl, rfl⟩
    · rintro i σ H2 _ ⟨w2, rfl, rfl⟩
      exact SqT.of htp
    · rintro i x σ H2 hx ⟨w2, rfl, rfl⟩
      obtain ⟨p, hp, a, rfl, ha⟩ := paired_get hq hx
      refine ⟨_, rfl, _, _, _, _, rfl, .tup ha, rfl, true, rfl, iteF ?_⟩
      refine ⟨_, rfl, a, _, 0, _, rfl, rfl, SqT.of ha, rfl, _, rfl, true, rfl, iteF ?_⟩
      refine ⟨_, rfl, a, _, 1, _, rfl, rfl, SqT.of ha, rfl, _, rfl, true, rfl, iteF ?_⟩
      exact ⟨_, rfl, rfl⟩
    · rintro σ H2 ⟨w2, rfl, rfl⟩
      exact k
end
end My
namespace My
open PySem L2 Pl
theorem yes_then {σ : St} {H : Hp} {f g : Hp → Prop} (h : f H) : tYes σ H (fun b H2 => if b = true then f H2 else g H2) := by
  show (if true = true then f H else g H)
  rw [if_pos rfl]
  exact h
end My
namespace L2
open PySem
theorem call_lenD {X : Cx} : CallR X (.builtin "len") (fun xs H Q => ∃ a kvs, xs = [V.ref a] ∧ H a = some (.dK kvs) ∧ Q (.int kvs.length) H) := by
  intro pins s σ H xs us Q I r h
  obtain ⟨a, kvs, rfl, ha, q⟩ := h
  obtain ⟨u, rfl, ru⟩ := r.one
  obtain rfl : u = Value.ref a := ru
  exact d_len I (.inl ha) fun t s' I' => ⟨.int kvs.length, H, I', ⟨t, rfl⟩, q⟩
end L2
namespace Pl
open PySem L2
/-! ### a dict of points -/
def keysD (ks : List Int) : List (Key × V) := ks.foldl (fun d k => putK d (.inl k) (.bl true)) []
theorem keysD_snoc (ks : List Int) (k : Int) : keysD (ks ++ [k]) = putK (keysD ks) (.inl k) (.bl true) := by simp [keysD, List.foldl_append]
theorem keysD_has (ks : List Int) (k : Int) : (valV (keysD ks) (.inl k)).isSome = decide (k ∈ ks) := by
  induction ks using snoc_ind with
  | h0 => rfl
  | h1 l x ih =>
    rw [keysD_snoc, valV_put]
    by_cases e : k = x
    · subst e
      rw [if_pos rfl]
      simp
    · rw [if_neg (by intro z; injection z with z; exact e z), ih]
      apply decide_eq_decide.mpr
      simp [e]
theorem putK_len {kvs : List (Key × V)} {k : Key} {v : V} : (putK kvs k v).length = if (valV kvs k).isSome = true then kvs.length else kvs.length + 1 := by
  unfold putK
  rw [valV_any]
  split <;> simp
theorem keysD_len (ks : List Int) : (keysD ks).length ≤ ks.length ∧ ((keysD ks).length = ks.length ↔ ks.Nodup) := by
  induction ks using snoc_ind with
  | h0 => exact ⟨Nat.le_refl _, by simp [keysD]⟩
  | h1 l x ih =>
    rw [keysD_snoc, putK_len, keysD_has, List.length_append, List.length_singleton]
    have nd : (l ++ [x]).Nodup ↔ l.Nodup ∧ x ∉ l := by
      rw [List.nodup_append]
      constructor
      · rintro ⟨h1, _, h3⟩
        exact ⟨h1, fun z => h3 x z x (List.mem_singleton.mpr rfl) rfl⟩
      · rintro ⟨h1, h2⟩
        exact ⟨h1, by simp, fun a ha b hb e => by rw [List.mem_singleton.mp hb] at e; subst e; exact h2 ha⟩
    rw [nd, ← ih.2]
    by_cases m : x ∈ l
    · rw [decide_eq_true m, if_pos rfl]
      exact ⟨by omega, by constructor
                          · intro z; omega
                          · intro z; exact absurd m z.2⟩
    · rw [decide_eq_false m, if_neg (by decide)]
      exact ⟨by omega, by constructor
                          · intro z; exact ⟨by omega, m⟩
                          · intro z; omega⟩
abbrev Pi2 := Int × Int
def pts2 (ps : List Pi2) : List Int := ps.flatMap fun p => [p.1, p.2]
theorem pts2_snoc (ps : List Pi2) (p : Pi2) : pts2 (ps ++ [p]) = (pts2 ps ++ [p.1]) ++ [p.2] := by simp [pts2, List.flatMap_append]
theorem pts2_len (ps : List Pi2) : (pts2 ps).length = 2 * ps.length := by
  induction ps using snoc_ind with
  | h0 => rfl
  | h1 l x ih => rw [pts2_snoc]; simp only [List.length_append, List.length_singleton, ih]; omega
def wrongP (n : Int) (p : Pi2) : Prop := p.1 < 0 ∨ n ≤ p.2 ∨ p.2 ≤ p.1
instance (n : Int) (p : Pi2) : Decidable (wrongP n p) := by unfold wrongP; infer_instance
def Bad (n : Int) (ps : List Pi2) : Prop := (n < 0 ∨ 60 < n) ∨ (∃ p ∈ ps, wrongP n p) ∨ ¬ (pts2 ps).Nodup ∨ ¬ ps.Pairwise (fun a b => lexI b a = false)
end Pl
namespace My
open PySem L2 Pl
def PIv (H : Hp) (v : V) (p : Pi2) : Prop := ∃ a, v = .ref a ∧ H a = some (.tup [.int p.1, .int p.2])
theorem PIv.same {H H' : Hp} {v : V} {p : Pi2} (s : Same H H') : PIv H v p → PIv H' v p := fun ⟨a, e, h⟩ => ⟨a, e, s _ _ h⟩
theorem pis_same {H H' : Hp} {qs : List V} {ps : List Pi2} (s : Same H H') (h : Paired (PIv H) qs ps) : Paired (PIv H') qs ps := L2.Paired.mapP h fun _ _ r => r.same s
def IsPI (H : Hp) (v : V) (n : Int) (ps : List Pi2) : Prop := ∃ t tp qs, v = .ref t ∧ H t = some (.tup [.int n, .ref tp]) ∧ H tp = some (.tup qs) ∧ Paired (PIv H) qs ps
section
variable {P : Program} {w : World} {K : PySem.W.Frag} {mg : Str → Option Value} {base : Heap}
/-! ### points_in -/
def spPointsIn : Sp := fun vs H Q _ => ∃ (tp : Addr) (qs : List V) (ps : List Pi2), vs = [.ref tp] ∧ H tp = some (.tup qs) ∧ Paired (PIv H) qs ps ∧ ps.length ≤ 61 ∧ ∀ d H', H d = none → H' d = some (.dK (keysD (pts2 ps))) → Same H H' → Q (.ref d) H'
theorem scPointsIn : FnScope ["pairs", "paired", "pair"] ["pairs"] (defScope sPointsIn) := ⟨rfl, rfl, rfl, by decide +kernel, rfl, by decide +kernel, by decide +kernel⟩
theorem ok_pointsIn {f : Addr} {fd : FuncData} (G : Glb K mg "points_in" ["pairs"] sPointsIn f fd) : FnOk P w K mg base CX0 1 f fd ["pairs"] spPointsIn := by
  refine G.fn.ok scPointsIn (fun vs H Q E h => ?_) (fun cdv A outer s H vs Q E hr h => ?_)
  · obtain ⟨tp, qs, ps, rfl, _⟩ := h; rfl
  · obtain ⟨tp, qs, ps, rfl, htp, hq, h61, k⟩ := h
    have nd := scPointsIn.nd
    have hu1 := hu_of hr
    have hql := PySem.Paired.length hq
    refine ⟨_, (pss_cons (ps_set (i := 1) nd rfl (Or.inl rfl) pe_dnewK)
      (pss_cons (ps_for PassesOwn.never rfl (pi_tup (pv 0)) (pg_name (i := 2) nd rfl (Or.inl rfl)) (pss_cons (ps_dput hu1 (pv 1) (pe_ix ix_tup (pv 2) pe_int (fun _ _ => rfl)) pe_bl rfl)
      (pss_one (ps_dput hu1 (pv 1) (pe_ix ix_tup (pv 2) pe_int (fun _ _ => rfl)) pe_bl rfl))))
      (pss_one (ps_ret (pv 1))))), ?_⟩
    refine fun d hd => ?_
    have s0 : Same H (upd H d (.dK [])) := same_upd hd
    refine ⟨_, rfl, tp, rfl, ⟨qs, SqT.of (s0 _ _ htp)⟩, for_tup (xs := qs) (fun i σ H2 => ∃ (w2 : Option V), σ = [some (.ref tp), some (.ref d), w2] ∧ H2 d = some (.dK (keysD (pts2 (ps.take i)))) ∧ Same H H2) ?_ ?_ ?_ ?_⟩
    · exact ⟨none, rfl, upd_same, s0⟩
    · rintro i σ H2 _ ⟨w2, rfl, g1, g2⟩
      exact SqT.of (g2 _ _ htp)
    · rintro i x σ H2 hx ⟨w2, rfl, g1, g2⟩
      obtain ⟨p, hp, a, rfl, ha⟩ := paired_get hq hx
      have hlen : ∀ l : List Int, (keysD l).length ≤ l.length := fun l => (keysD_len l).1
      have hl1 := hlen (pts2 (ps.take i))
      rw [pts2_len, List.length_take] at hl1
      have s1 : ∀ kvs, Same H (upd H2 d (.dK kvs)) := fun kvs => same_upd2 g2 hd
      refine ⟨_, rfl, _, rfl, a, _, 0, _, rfl, rfl, SqT.of (g2 _ _ ha), rfl, d, _, rfl, DPut.k (k := Sum.inl p.1) g1 (small1000 (by omega)), ?_⟩
      have hl2 := hlen (pts2 (ps.take i) ++ [p.1])
      rw [keysD_snoc, List.length_append, List.length_singleton, pts2_len, List.length_take] at hl2
      refine ⟨_, rfl, _, rfl, a, _, 1, _, rfl, rfl, SqT.of (s1 _ _ _ ha), rfl, d, _, rfl, DPut.k (k := Sum.inl p.2) upd_same (small1000 (by omega)), ?_⟩
      refine ⟨_, rfl, ?_, ?_⟩
      · rw [upd_same, List.take_add_one, hp, Option.toList_some, pts2_snoc, keysD_snoc, keysD_snoc]
      · rw [upd_upd]; exact s1 _
    · rintro σ H2 ⟨w2, rfl, g1, g2⟩
      rw [hql, List.take_length] at g1
      exact ⟨_, rfl, k d H2 hd g1 g2⟩
/-! ### refuse_wrong_points -/
def spRWrong (C : Addr) : Sp := fun vs H Q E => ∃ (n : Int) (v : V) (p : Pi2), vs = [.int n, v] ∧ PIv H v p ∧ (wrongP n p → E (.ref C) none H) ∧ (¬ wrongP n p → Q .non H)
theorem scRWrong : FnScope ["points", "pair"] ["points", "pair"] (defScope sRWrong) := ⟨rfl, rfl, rfl, by decide +kernel, rfl, by decide +kernel, by decide +kernel⟩
theorem ok_rWrong {f C : Addr} {fd : FuncData} (G : Glb K mg "refuse_wrong_points" ["points", "pair"] sRWrong f fd) (hNP : mg "NoPairing" = some (.ref C)) (hqNP : PySem.W.excIn K C bmV "ValueError.__new__" = true) : FnOk P w K mg base (CX1 P w) 1 f fd ["points", "pair"] (spRWrong C) := by
  refine G.fn.ok1 scRWrong (fun vs H Q E h => ?_) (fun cdv A outer s H vs Q E hr h => ?_)
  · obtain ⟨n, v, p, rfl, _⟩ := h; rfl
  · obtain ⟨n, v, p, rfl, ⟨a, rfl, ha⟩, kE, kQ⟩ := h
    refine ⟨_, (pss_cons (ps_if (PW.pt (pw_or (pt_cmpR op_lt (pe_ix ix_tup (pv 1) pe_int (fun _ _ => rfl)) pe_int (nomark _)) (pw_or1 (pt_cmpR op_ge (pe_ix ix_tup (pv 1) pe_int (fun _ _ => rfl)) (pv 0) (nomark _))))) (pss_one (ps_raise (by rfl) hNP hqNP (pa_cons pe_str pa_nil))) pss_nil)
      (pss_one (ps_if (pt_cmpR op_ge (pe_ix ix_tup (pv 1) pe_int (fun _ _ => rfl)) (pe_ix ix_tup (pv 1) pe_int (fun _ _ => rfl)) (nomark _)) (pss_one (ps_raise (by rfl) hNP hqNP (pa_cons pe_str pa_nil))) pss_nil))), ?_⟩
    refine ⟨_, rfl, a, _, 0, _, rfl, rfl, SqT.of ha, rfl, _, _, rfl, rfl, _, rfl, ite2 (fun c => ?_) (fun c => ?_)⟩
    · exact ⟨by show 1 ≤ sizeLine; decide, kE (.inl (of_decide_eq_true c))⟩
    refine ⟨_, rfl, a, _, 1, _, rfl, rfl, SqT.of ha, rfl, _, rfl, _, _, rfl, rfl, _, rfl, ite2 (fun c2 => ?_) (fun c2 => ?_)⟩
    · exact ⟨by show 1 ≤ sizeLine; decide, kE (.inr (.inl (of_decide_eq_true c2)))⟩
    refine ⟨_, rfl, a, _, 0, _, rfl, rfl, SqT.of ha, rfl, _, rfl, a, _, 1, _, rfl, rfl, SqT.of ha, rfl, _, _, rfl, rfl, _, rfl, ite2 (fun c3 => ?_) (fun c3 => ?_)⟩
    · exact ⟨by show 1 ≤ sizeLine; decide, kE (.inr (.inr (of_decide_eq_true c3)))⟩
    · refine kQ fun z => ?_
      rcases z with z | z | z
      · exact c (decide_eq_true z)
      · exact c2 (decide_eq_true z)
      · exact c3 (decide_eq_true z)
end
end My
namespace My
open PySem L2 Pl
def encI (p : Pi2) : PyData := .tuple [.int p.1, .int p.2]
theorem rpI {K : PySem.W.Frag} {H : Hp} : ∀ {qs : List V} {ps : List Pi2}, Paired (PIv H) qs ps → RpAll K H qs (ps.map encI)
  | _, _, .nil => .nil
  | _, _, .cons ⟨a, e, h⟩ r => by subst e; exact .cons (.tup (SqT.of h) (.cons (.int _) (.cons (.int _) .nil))) (rpI r)
theorem canI : ∀ ps : List Pi2, PyData.canLayAll0 (ps.map encI) = true
  | [] => rfl
  | p :: r => by
    rw [List.map_cons, PyData.canLayAll0, canI r]
    rfl
theorem depthI : ∀ ps : List Pi2, PyData.depthAll (ps.map encI) ≤ 1
  | [] => Nat.zero_le _
  | p :: r => by
    rw [List.map_cons, PyData.depthAll]
    have := depthI r
    have e : (encI p).depth = 1 := rfl
    omega
theorem eqvI : ∀ ps qs : List Pi2, PyData.eqvAll (ps.map encI) (qs.map encI) = true → ps = qs
  | [], [], _ => rfl
  | [], _ :: _, h => by cases h
  | _ :: _, [], h => by cases h
  | p :: ps, q :: qs, h => by
    rw [List.map_cons, List.map_cons, PyData.eqvAll, Bool.and_eq_true] at h
    have e := eqvI ps qs h.2
    have e2 : p = q := by
      have := h.1
      simp only [encI, PyData.eqv, PyData.eqvAll, Bool.and_true, Bool.and_eq_true, beq_iff_eq] at this
      exact Prod.ext this.1 this.2
    rw [e, e2]
theorem eqvI_dec (ps qs : List Pi2) : PyData.eqv (.list (ps.map encI)) (.list (qs.map encI)) = decide (ps = qs) := by
  rw [Bool.eq_iff_iff, decide_eq_true_eq]
  constructor
  · intro h
    exact eqvI ps qs (by simpa [PyData.eqv] using h)
  · rintro rfl
    exact PySem.SeqAt.eqv_refl _ (by rw [PyData.canLay0]; exact canI ps)
theorem sortedI {ps qs : List Pi2} (p : qs.Perm ps) (h : qs.Pairwise fun a b => lexI b a = false) : ps = qs ↔ ps.Pairwise fun a b => lexI b a = false := by
  constructor
  · rintro rfl; exact h
  · intro h2
    exact p.symm.eq_of_pairwise (fun _ _ _ _ x y => lexI_eq y x) h2 h
section
variable {P : Program} {w : World} {K : PySem.W.Frag} {mg : Str → Option Value} {base : Heap}
/-! ### refuse_shared_points, refuse_unsorted -/
def spRef (C : Addr) (bad : List Pi2 → Prop) : Sp := fun vs H Q E => ∃ (tp : Addr) (qs : List V) (ps : List Pi2), vs = [.ref tp] ∧ H tp = some (.tup qs) ∧ Paired (PIv H) qs ps ∧ ps.length ≤ 61 ∧ (bad ps → ∀ H', Same H H' → E (.ref C) none H') ∧ (¬ bad ps → ∀ H', Same H H' → Q .non H')
theorem scRShared : FnScope ["pairs"] ["pairs"] (defScope sRShared) := ⟨rfl, rfl, rfl, by decide +kernel, rfl, by decide +kernel, by decide +kernel⟩
theorem ok_rShared {f fPi C : Addr} {fd fdPi : FuncData} (G : Glb K mg "refuse_shared_points" ["pairs"] sRShared f fd) (GPi : Glb K mg "points_in" ["pairs"] sPointsIn fPi fdPi) (hNP : mg "NoPairing" = some (.ref C)) (hqNP : PySem.W.excIn K C bmV "ValueError.__new__" = true) (n_len : mg "len" = none) :
    FnOk P w K mg base (CX1 P w) 2 f fd ["pairs"] (spRef C fun ps => ¬ (pts2 ps).Nodup) := by
  have FPi : FnOk P w K mg base CX0 1 fPi fdPi ["pairs"] spPointsIn := ok_pointsIn GPi
  refine G.fn.ok1 scRShared (fun vs H Q E h => ?_) (fun cdv A outer s H vs Q E hr h => ?_)
  · obtain ⟨tp, qs, ps, rfl, _⟩ := h; rfl
  · obtain ⟨tp, qs, ps, rfl, htp, hq, h61, kE, kQ⟩ := h
    have hql := PySem.Paired.length hq
    refine ⟨_, (pss_one (ps_if (pt_cmpR op_lt (pe_callB call_lenD (by rfl) n_len PySem.boot_len (pa_cons (pe_call FPi hr rfl GPi.mgf GPi.fn.kp GPi.bd .nil pass0 (pa_cons (pv 0) pa_nil)) pa_nil)) (pe_op op_mul pe_int (pe_callB call_len_seq (by rfl) n_len PySem.boot_len (pa_cons (pv 0) pa_nil))) (nomark _)) (pss_one (ps_raise (by rfl) hNP hqNP (pa_cons pe_str pa_nil))) pss_nil)), ?_⟩
    refine ⟨_, rfl, tp, qs, ps, rfl, htp, hq, h61, fun d H1 hd hd1 s1 => ?_⟩
    have hn := keysD_len (pts2 ps)
    rw [pts2_len] at hn
    refine ⟨d, _, rfl, hd1, _, rfl, tp, qs, rfl, .inr (SqT.of (s1 _ _ htp)), _, _, rfl, rfl, .inl ⟨by decide, by decide⟩, _, _, rfl, rfl, _, rfl, ite2 (fun c => ?_) (fun c => ?_)⟩
    · have c' := of_decide_eq_true c
      refine ⟨by show 1 ≤ sizeLine; decide, kE (fun z => ?_) H1 s1⟩
      have := hn.2.mpr z
      omega
    · have c' : ¬ ((keysD (pts2 ps)).length : Int) < 2 * (qs.length : Int) := fun z => c (decide_eq_true z)
      exact kQ (fun z => z (hn.2.mp (by omega))) H1 s1
theorem scRUnsorted : FnScope ["pairs"] ["pairs"] (defScope sRUnsorted) := ⟨rfl, rfl, rfl, by decide +kernel, rfl, by decide +kernel, by decide +kernel⟩
theorem ok_rUnsorted {f C : Addr} {fd : FuncData} (G : Glb K mg "refuse_unsorted" ["pairs"] sRUnsorted f fd) (hNP : mg "NoPairing" = some (.ref C)) (hqNP : PySem.W.excIn K C bmV "ValueError.__new__" = true) (n_list : mg "list" = none) (n_sorted : mg "sorted" = none) :
    FnOk P w K mg base (CX1 P w) 1 f fd ["pairs"] (spRef C fun ps => ¬ ps.Pairwise (fun a b => lexI b a = false)) := by
  refine G.fn.ok1 scRUnsorted (fun vs H Q E h => ?_) (fun cdv A outer s H vs Q E hr h => ?_)
  · obtain ⟨tp, qs, ps, rfl, _⟩ := h; rfl
  · obtain ⟨tp, qs, ps, rfl, htp, hq, h61, kE, kQ⟩ := h
    have hu := hr.units
    have hql := PySem.Paired.length hq
    refine ⟨_, (pss_one (ps_if (pt_cmpR (op_neD hu) (pe_callTy call_list_of (by rfl) n_list PyProof.Rows.boot_list (pa_cons (pv 0) pa_nil)) (pe_callB call_sortedP (by rfl) n_sorted PyProof.Rows.boot_sorted (pa_cons (pv 0) pa_nil)) (nomark _)) (pss_one (ps_raise (by rfl) hNP hqNP (pa_cons pe_str pa_nil))) pss_nil)), ?_⟩
    refine ⟨_, rfl, tp, qs, rfl, .inr (SqT.of htp), fun ll hll => ?_⟩
    have s1 : Same H (upd H ll (.lst qs)) := same_upd hll
    refine ⟨_, rfl, tp, qs, ps, PIv (upd H ll (.lst qs)), rfl, .inr (SqT.of (s1 _ _ htp)), pis_same s1 hq, fun u p ⟨a, e, h⟩ => ⟨a, e, SqT.of h⟩, by omega, fun sl zs rs hsl hz hzp hrp hrs => ?_⟩
    have s2 : Same (upd H ll (.lst qs)) (upd (upd H ll (.lst qs)) sl (.lst zs)) := same_upd hsl
    refine ⟨.list (ps.map encI), .list (rs.map encI), .lst (SqL.of (s2 _ _ upd_same)) (rpI (pis_same s2 (pis_same s1 hq))), .lst (SqL.of upd_same) (rpI (pis_same s2 hz)), by rw [PyData.canLay0]; exact canI _, by rw [PyData.canLay0]; exact canI _, by rw [PyData.depth]; have := depthI ps; omega, _, rfl, ?_⟩
    rw [if_pos rfl, eqvI_dec]
    have hs := sortedI hrp hrs
    by_cases c : ps = rs
    · rw [decide_eq_true c]
      exact iteF (kQ (fun z => z (hs.mp c)) _ (s1.trans s2))
    · rw [decide_eq_false c]
      exact iteT ⟨by show 1 ≤ sizeLine; decide, kE (fun z => c (hs.mpr z)) _ (s1.trans s2)⟩
/-! ### looked -/
def spLooked (C : Addr) : Sp := fun vs H Q E => ∃ (v : V) (n : Int) (ps : List Pi2), vs = [v] ∧ IsPI H v n ps ∧ ps.length ≤ 61 ∧ (Bad n ps → ∀ H', Same H H' → E (.ref C) none H') ∧ (¬ Bad n ps → ∀ H', Same H H' → Q (.int ps.length) H')
theorem scLooked : FnScope ["pairing", "points", "pairs", "pair"] ["pairing"] (defScope sLooked) := ⟨rfl, rfl, rfl, by decide +kernel, rfl, by decide +kernel, by decide +kernel⟩
theorem ok_looked {f fW fS fU C : Addr} {fd fdW fdS fdU : FuncData} {tk : Tok} (G : Glb K mg "looked" ["pairing"] sLooked f fd) (GW : Glb K mg "refuse_wrong_points" ["points", "pair"] sRWrong fW fdW) (GS : Glb K mg "refuse_shared_points" ["pairs"] sRShared fS fdS) (GU : Glb K mg "refuse_unsorted" ["pairs"] sRUnsorted fU fdU)
    (FW : FnOk P w K mg base (CX1 P w) 2 fW fdW ["points", "pair"] (spRWrong C)) (FS : FnOk P w K mg base (CX1 P w) 2 fS fdS ["pairs"] (spRef C fun ps => ¬ (pts2 ps).Nodup)) (FU : FnOk P w K mg base (CX1 P w) 2 fU fdU ["pairs"] (spRef C fun ps => ¬ ps.Pairwise (fun a b => lexI b a = false)))
    (hNP : mg "NoPairing" = some (.ref C)) (hqNP : PySem.W.excIn K C bmV "ValueError.__new__" = true) (hMP : mg "MOST_POINTS" = some (.int 60 tk)) (n_len : mg "len" = none) : FnOk P w K mg base (CX1 P w) 3 f fd ["pairing"] (spLooked C) := by
  refine G.fn.ok1 scLooked (fun vs H Q E h => ?_) (fun cdv A outer s H vs Q E hr h => ?_)
  · obtain ⟨v, n, ps, rfl, _⟩ := h; rfl
  · obtain ⟨v, n, ps, rfl, ⟨t, tp, qs, rfl, ht, htp, hq⟩, h61, kE, kQ⟩ := h
    have nd := scLooked.nd
    have hql := PySem.Paired.length hq
    refine ⟨_, (pss_cons (ps_set (i := 1) nd rfl (Or.inl rfl) (pe_ix ix_tup (pv 0) pe_int (fun _ _ => rfl)))
      (pss_cons (ps_set (i := 2) nd rfl (Or.inl rfl) (pe_ix ix_tup (pv 0) pe_int (fun _ _ => rfl)))
      (pss_cons (ps_if (PW.pt (pw_or (pt_cmpR op_lt (pv 1) pe_int (nomark _)) (pw_or1 (pt_cmpR op_gt (pv 1) (pe_glob (v := .int 60) (by rfl) hMP ⟨_, rfl⟩) (nomark _))))) (pss_one (ps_raise (by rfl) hNP hqNP (pa_cons pe_str pa_nil))) pss_nil)
      (pss_cons (ps_for PassesOwn.leaving rfl (pi_tup (pv 2)) (pg_name (i := 3) nd rfl (Or.inl rfl)) (pss_one (ps_expr (pe_call FW hr rfl GW.mgf GW.fn.kp GW.bd .nil pass1 (pa_cons (pv 1) (pa_cons (pv 3) pa_nil))))))
      (pss_cons (ps_expr (pe_call FS hr rfl GS.mgf GS.fn.kp GS.bd .nil pass1 (pa_cons (pv 2) pa_nil)))
      (pss_cons (ps_expr (pe_call FU hr rfl GU.mgf GU.fn.kp GU.bd .nil pass1 (pa_cons (pv 2) pa_nil)))
      (pss_one (ps_ret (pe_callB call_len_seq (by rfl) n_len PySem.boot_len (pa_cons (pv 2) pa_nil)))))))))), ?_⟩
    refine ⟨_, rfl, t, _, 0, _, rfl, rfl, SqT.of ht, rfl, _, rfl, t, _, 1, _, rfl, rfl, SqT.of ht, rfl, ?_⟩
    refine ⟨_, rfl, _, _, rfl, rfl, _, rfl, ite2 (fun c => ?_) (fun c => ?_)⟩
    · exact ⟨by show 1 ≤ sizeLine; decide, kE (.inl (.inl (of_decide_eq_true c))) H (Same.refl _)⟩
    refine ⟨_, rfl, _, _, rfl, rfl, _, rfl, ite2 (fun c2 => ?_) (fun c2 => ?_)⟩
    · exact ⟨by show 1 ≤ sizeLine; decide, kE (.inl (.inr (of_decide_eq_true c2))) H (Same.refl _)⟩
    refine ⟨_, rfl, tp, rfl, ⟨qs, SqT.of htp⟩, for_tup (xs := qs) (fun i σ H2 => ∃ (w3 : Option V), σ = [some (.ref t), some (.int n), some (.ref tp), w3] ∧ H2 = H ∧ ∀ p ∈ ps.take i, ¬ wrongP n p) ?_ ?_ ?_ ?_⟩
    · exact ⟨none, rfl, rfl, fun p hp => by simp at hp⟩
    · rintro i σ H2 _ ⟨w3, rfl, rfl, _⟩
      exact SqT.of htp
    · rintro i x σ H2 hx ⟨w3, rfl, rfl, g⟩
      obtain ⟨p, hp, hxp⟩ := paired_get hq hx
      refine ⟨_, rfl, _, rfl, n, x, p, rfl, hxp, fun z => kE (.inr (.inl ⟨p, List.mem_of_getElem? hp, z⟩)) _ (Same.refl _), fun z => ⟨_, rfl, rfl, fun q hq2 => ?_⟩⟩
      rw [List.take_add_one, hp, Option.toList_some] at hq2
      rcases List.mem_append.mp hq2 with h | h
      · exact g q h
      · rw [List.mem_singleton.mp h]; exact z
    · rintro σ H2 ⟨w3, rfl, rfl, g⟩
      rw [hql, List.take_length] at g
      refine ⟨_, rfl, tp, qs, ps, rfl, htp, hq, h61, fun z H' s' => kE (.inr (.inr (.inl z))) H' s', fun z1 H3 s3 => ?_⟩
      refine ⟨_, rfl, tp, qs, ps, rfl, s3 _ _ htp, pis_same s3 hq, h61, fun z H' s' => kE (.inr (.inr (.inr z))) H' (s3.trans s'), fun z2 H4 s4 => ?_⟩
      refine ⟨_, rfl, tp, qs, rfl, .inr (SqT.of (s4 _ _ (s3 _ _ htp))), ?_⟩
      rw [hql]
      refine kQ (fun z => ?_) H4 (s3.trans s4)
      rcases z with (z | z) | ⟨p, hp, z⟩ | z | z
      · exact c (decide_eq_true z)
      · exact c2 (decide_eq_true z)
      · exact g p hp z
      · exact z1 z
      · exact z2 z
end
end My
namespace My
open PySem L2 Pl
theorem pis_of {H : Hp} {qs : List V} {ps : List (Nat × Nat)} (h : Paired (PrT H) qs ps) : Paired (PIv H) qs (ps.map fun p => ((p.1 : Int), (p.2 : Int))) := by
  induction h with
  | nil => exact .nil
  | cons a _ ih => exact .cons a ih
theorem IsP.pi {H : Hp} {v : V} {n : Nat} {ps : List (Nat × Nat)} : IsP H v n ps → IsPI H v n (ps.map fun p => ((p.1 : Int), (p.2 : Int))) := fun ⟨t, tp, qs, e, h1, h2, h3⟩ => ⟨t, tp, qs, e, h1, h2, pis_of h3⟩
end My
namespace My
open PySem L2 Pl
end My
namespace Pl
open PySem
/-- ends with a colon -/
theorem ends_co (t : Str) : (L2.endsB t co = true ↔ ∃ u, t = u ++ co) ∧ ∀ u, t = u ++ co → StrLaws.sliceText t none (some (-1)) = u := by
  have hl : co.length = 1 := by decide +kernel
  have hcl : co.cps.toList = [58] := by rw [co_is]
  have cut : ∀ u : Str, t = u ++ co → StrLaws.sliceText t none (some (-1)) = u := fun u e => by
    have ht : t.length = u.length + 1 := by rw [e, len_app, hl]
    have htl : t.cps.toList.length = t.length := by simp [Str.length]
    rw [StrLaws.sliceText_neg_hi t none (by decide) (by omega), StrLaws.sliceText_to (by omega)]
    apply str_eq
    show List.take _ (t.cps.toList.drop 0) = u.cps.toList
    rw [List.drop_zero, e, app_toList, List.take_append_of_le_length]
    · rw [List.take_of_length_le]
      rw [← e]
      have : u.cps.toList.length = u.length := by simp [Str.length]
      omega
    · rw [← e]
      have : u.cps.toList.length = u.length := by simp [Str.length]
      omega
  refine ⟨⟨fun h => ?_, ?_⟩, cut⟩
  · unfold L2.endsB at h
    rw [Bool.and_eq_true, decide_eq_true_eq, hl, StrLaws.subAt_eq, hl, hcl, beq_iff_eq] at h
    have htl : t.cps.toList.length = t.length := by simp [Str.length]
    have e : t.cps.toList = t.cps.toList.take (t.length - 1) ++ [58] := by
      have h2 : t.cps.toList.drop (t.length - 1) = [58] := by
        have h3 : (t.cps.toList.drop (t.length - 1)).length = 1 := by rw [List.length_drop]; omega
        have h4 := h.2
        rw [List.take_of_length_le (by omega)] at h4
        exact h4
      rw [← h2, List.take_append_drop]
    refine ⟨⟨(t.cps.toList.take (t.length - 1)).toArray⟩, str_eq ?_⟩
    rw [app_toList, hcl]
    exact e
  · rintro ⟨u, rfl⟩
    unfold L2.endsB
    rw [Bool.and_eq_true, decide_eq_true_eq, hl, StrLaws.subAt_eq, hl, hcl, beq_iff_eq, len_app, hl, app_toList, hcl]
    refine ⟨by omega, ?_⟩
    have : u.cps.toList.length = u.length := by simp [Str.length]
    rw [show u.length + 1 - 1 = u.cps.toList.length by omega, List.drop_left]
    rfl
def okT (t : Str) : Prop := ∀ c ∈ t.cps.toList, c < 1114112
theorem okT_app {a b : Str} : okT (a ++ b) ↔ okT a ∧ okT b := by
  unfold okT
  rw [app_toList]
  constructor
  · intro h; exact ⟨fun c hc => h c (List.mem_append_left _ hc), fun c hc => h c (List.mem_append_right _ hc)⟩
  · rintro ⟨h1, h2⟩ c hc
    rcases List.mem_append.mp hc with hc | hc
    · exact h1 c hc
    · exact h2 c hc
theorem okT_can {t : Str} (h : okT t) : (PyData.str t).canLay0 = true := by
  show t.cps.all (fun c => decide (c < 0x110000)) = true
  rw [Array.all_eq_true_iff_forall_mem]
  intro c hc
  exact decide_eq_true (h c (by simpa using hc))
theorem app_co_inj {u w : Str} (h : u ++ co = w ++ co) : u = w := by
  have a := (ends_co (u ++ co)).2 u rfl
  have b := (ends_co (u ++ co)).2 w h
  rw [← a, b]
end Pl
namespace My
open PySem L2 Pl
theorem small_log {n : Nat} (h : n ≤ 60) : (n : Int).natAbs.log2 < 1920 := by
  rw [Int.natAbs_natCast]
  have := Nat.log2_le_self n
  omega
theorem any_strs (ws : List Str) (t : Str) : ((ws.map PyData.str).any fun e => PyData.eqv e (.str t)) = decide (t ∈ ws) := by
  rw [Bool.eq_iff_iff, List.any_map, List.any_eq_true, decide_eq_true_eq]
  constructor
  · rintro ⟨x, hx, e⟩
    have e' : x = t := by simpa [PyData.eqv] using e
    rw [← e']; exact hx
  · intro h; exact ⟨t, h, by simp [PyData.eqv]⟩
theorem rpStr {K : PySem.W.Frag} {H : Hp} : ∀ ws : List Str, RpAll K H (ws.map V.str) (ws.map PyData.str)
  | [] => .nil
  | _ :: r => .cons (.str _) (rpStr r)
section
variable {P : Program} {w : World} {K : PySem.W.Frag} {mg : Str → Option Value} {base : Heap}
/-! ### number_in_word -/
def spNumWord (C : Addr) : Sp := fun vs H Q E => ∃ t : Str, vs = [.str t] ∧ t.length ≤ 10000 ∧ okT t ∧ (∀ n : Nat, n ≤ 60 → t = nS n → ∀ H', Same H H' → Q (.int n) H') ∧ ((∀ n : Nat, n ≤ 60 → t ≠ nS n) → ∀ H', Same H H' → E (.ref C) none H')
theorem scNumWord : FnScope ["word"] ["word"] (defScope sNumberInWord) := ⟨rfl, rfl, rfl, by decide +kernel, rfl, by decide +kernel, by decide +kernel⟩
theorem can_str_all : ∀ n, n ≤ 60 → (PyData.str (nS n)).canLay0 = true := by decide +kernel
theorem can_nums : ∀ ks : List Nat, (∀ k ∈ ks, k ≤ 60) → PyData.canLayAll0 ((ks.map nS).map PyData.str) = true
  | [], _ => rfl
  | k :: r, h => by rw [List.map_cons, List.map_cons, PyData.canLayAll0, can_str_all k (h k List.mem_cons_self), can_nums r fun x hx => h x (List.mem_cons_of_mem _ hx)]; rfl
theorem ok_numWord {f C : Addr} {fd : FuncData} {tkM : Tok} (G : Glb K mg "number_in_word" ["word"] sNumberInWord f fd) (hBN : mg "BadNote" = some (.ref C)) (hqBN : PySem.W.excIn K C bmV "ValueError.__new__" = true) (hMP : mg "MOST_POINTS" = some (.int 60 tkM)) (n_range : mg "range" = none) (n_str : mg "str" = none) (n_int : mg "int" = none) : FnOk P w K mg base (CX1 P w) 1 f fd ["word"] (spNumWord C) := by
  refine G.fn.ok1 scNumWord (fun vs H Q E h => ?_) (fun cdv A outer s H vs Q E hr h => ?_)
  · obtain ⟨t, rfl, _⟩ := h; rfl
  · obtain ⟨t, rfl, hz, hok, kQ, kE⟩ := h
    have hu := hr.units
    refine ⟨_, (pss_cons (ps_if (pt_cmpR (op_notInD hu) (pv 0) (pe_comp (js := []) (ys := []) (cl := []) (by exact ⟨rfl, by decide +kernel, by decide +kernel, rfl, rfl, .nil, (fun _ _ h => nomatch h), has_of (List.forall_mem_cons.mpr ⟨(fun z => by rcases z with z | z <;> cases z), List.forall_mem_cons.mpr ⟨(fun z => by rcases z with z | z <;> cases z), List.forall_mem_cons.mpr ⟨(fun z => by rcases z with z | z <;> cases z), (fun _ h => nomatch h)⟩⟩⟩), by decide +kernel⟩) rfl (pi_range1 rfl n_range (pa_cons (pe_op op_add (pe_glob (v := .int 60) (by rfl) hMP ⟨_, rfl⟩) pe_int) pa_nil)) (fun C s H fp => pif_nil) (fun C s H fp => (pe_callTy call_str_int (by rfl) n_str PyProof.Rows.boot_str (pa_cons (pv 0) pa_nil)))) rfl) (pss_one (ps_raise (by rfl) hBN hqBN (pa_cons pe_str pa_nil))) pss_nil)
      (pss_one (ps_ret (pe_callTy call_int_text (by rfl) n_int PyProof.Rows.boot_int (pa_cons (pv 0) pa_nil))))), ?_⟩
    refine ⟨_, rfl, _, _, rfl, rfl, 61, rfl, by decide, by decide, fun D hD => ?_⟩
    refine comp_data (xs := (List.range 61).map fun (m : Nat) => V.int (0 + m)) (ds := List.range 61) (fun _ => true) nS (fun _ u y => u = V.str y) (by rw [List.length_map]) (small1000 (by rw [List.length_map, List.length_range]; omega)) hD (fun _ _ _ _ _ h => h) (fun _ _ _ _ _ _ _ h => h)
      (fun m H' hm s => by rw [List.length_map, List.length_range] at hm; exact hm) (fun m H' u H'' hm s y => ⟨y.1, by rw [List.length_map, List.length_range] at hm; rw [y.2, List.getElem?_map, List.getElem?_range hm]; rfl⟩) (fun H' s => by rw [List.length_map, List.length_range]; exact Nat.le_refl _)
      (fun m u m' hu2 hm2 H' s' _ R hR hN => ?_) fun H1 ys hys hpy s1 => ?_
    · have hmr : m < 61 := by have := (List.getElem?_eq_some_iff.mp hm2).1; rw [List.length_range] at this; exact this
      rw [List.getElem?_range hmr] at hm2
      cases hm2
      rw [List.getElem?_map, List.getElem?_range hmr] at hu2
      cases hu2
      refine yes_then ⟨_, rfl, _, rfl, by rw [Int.zero_add]; exact small_log (by omega), hR rfl _ H' (Same.refl _) ?_⟩
      show V.str _ = V.str (nS m)
      unfold nS
      rw [Int.zero_add]
    · rw [List.filter_eq_self.mpr (fun _ _ => rfl)] at hpy
      have ey : ys = ((List.range 61).map nS).map V.str := by
        clear hys
        generalize (List.range 61).map nS = zs at hpy
        induction hpy with
        | nil => rfl
        | cons a _ ih => rw [List.map_cons, a, ih]
      rw [ey] at hys
      refine ⟨D, _, .str t, ((List.range 61).map nS).map PyData.str, rfl, .inl (SqL.of hys), .str t, rpStr _, okT_can hok, can_nums _ (fun k hk => by have := List.mem_range.mp hk; omega), Nat.zero_le _, _, rfl, ?_⟩
      rw [if_pos rfl, any_strs]
      by_cases c : t ∈ (List.range 61).map nS
      · rw [decide_eq_true c]
        obtain ⟨n, hn, e⟩ := List.mem_map.mp c
        have hn' : n ≤ 60 := by have := List.mem_range.mp hn; omega
        refine iteF ⟨_, rfl, t, (n : Int), rfl, by rw [← e]; exact (nS_ok n hn').2.2.2.2, by rw [← e]; have := (nS_ok n hn').1; omega, kQ n hn' e.symm H1 s1⟩
      · rw [decide_eq_false c]
        refine iteT ⟨by show 1 ≤ sizeLine; decide, kE (fun n hn e => c ?_) H1 s1⟩
        exact List.mem_map.mpr ⟨n, List.mem_range.mpr (by omega), e.symm⟩
/-! ### points_in_word -/
def spPtsWord (C : Addr) : Sp := fun vs H Q E => ∃ t : Str, vs = [.str t] ∧ t.length ≤ 10000 ∧ okT t ∧ (∀ n : Nat, n ≤ 60 → t = wN n → ∀ H', Same H H' → Q (.int n) H') ∧ ((∀ n : Nat, n ≤ 60 → t ≠ wN n) → ∀ H', Same H H' → E (.ref C) none H')
theorem scPtsWord : FnScope ["word"] ["word"] (defScope sPointsInWord) := ⟨rfl, rfl, rfl, by decide +kernel, rfl, by decide +kernel, by decide +kernel⟩
theorem ok_ptsWord {f fN C : Addr} {fd fdN : FuncData} (G : Glb K mg "points_in_word" ["word"] sPointsInWord f fd) (GN : Glb K mg "number_in_word" ["word"] sNumberInWord fN fdN) (FN : FnOk P w K mg base (CX1 P w) 1 fN fdN ["word"] (spNumWord C)) (hBN : mg "BadNote" = some (.ref C)) (hqBN : PySem.W.excIn K C bmV "ValueError.__new__" = true) : FnOk P w K mg base (CX1 P w) 2 f fd ["word"] (spPtsWord C) := by
  refine G.fn.ok1 scPtsWord (fun vs H Q E h => ?_) (fun cdv A outer s H vs Q E hr h => ?_)
  · obtain ⟨t, rfl, _⟩ := h; rfl
  · obtain ⟨t, rfl, hz, hok, kQ, kE⟩ := h
    obtain ⟨he, hc⟩ := ends_co t
    refine ⟨_, (pss_cons (ps_if (pt_not (pt_val (pe_bm PySem.F.plainAttrs_str PySem.F.slot_str_endswith PySem.F.type_str_endswith mt_ends (pv 0) (pa_cons pe_str pa_nil)))) (pss_one (ps_raise (by rfl) hBN hqBN (pa_cons pe_str pa_nil))) pss_nil)
      (pss_one (ps_ret (pe_call FN hr rfl GN.mgf GN.fn.kp GN.bd .nil pass1 (pa_cons (pe_slice sl_str (pv 0) po_none (po_some (pe_un un_neg pe_int))) pa_nil))))), ?_⟩
    refine ⟨_, rfl, rfl, t, co, rfl, rfl, _, rfl, ?_⟩
    cases e : endsB t co with
    | false =>
      refine iteT ⟨by show 1 ≤ sizeLine; decide, kE (fun n hn z => ?_) H (Same.refl _)⟩
      have := he.mpr ⟨_, z⟩
      rw [e] at this
      cases this
    | true =>
      obtain ⟨u, hu⟩ := he.mp e
      have hul : u.length ≤ 10000 := by rw [hu, len_app] at hz; omega
      refine iteF ⟨_, rfl, _, rfl, _, rfl, t, rfl, hz, ?_⟩
      have hs := hc u hu
      refine ⟨_, rfl, by show (StrLaws.sliceText t none (some (-1))).length ≤ 10000; rw [hs]; exact hul, by show okT (StrLaws.sliceText t none (some (-1))); rw [hs]; rw [hu] at hok; exact (okT_app.mp hok).1, fun n hn z => kQ n hn ?_, fun z => kE fun n hn z2 => z n hn ?_⟩
      · have z' : StrLaws.sliceText t none (some (-1)) = nS n := z
        rw [hs] at z'
        rw [hu, z']; rfl
      · show StrLaws.sliceText t none (some (-1)) = nS n
        rw [hs]
        rw [hu] at z2
        exact app_co_inj z2
/-! ### pair_in_word -/
def spPairWord (C : Addr) : Sp := fun vs H Q E => ∃ t : Str, vs = [.str t] ∧ t.length ≤ 10000 ∧ okT t ∧ (∀ p : Nat × Nat, p.1 ≤ 60 → p.2 ≤ 60 → t = wP p → ∀ v H', Same H H' → PrT H' v p → Q v H') ∧ ((∀ p : Nat × Nat, p.1 ≤ 60 → p.2 ≤ 60 → t ≠ wP p) → ∀ H', Same H H' → E (.ref C) none H')
theorem scPairWord : FnScope ["word", "numbers"] ["word"] (defScope sPairInWord) := ⟨rfl, rfl, rfl, by decide +kernel, rfl, by decide +kernel, by decide +kernel⟩
theorem ok_pairWord {f fN C : Addr} {fd fdN : FuncData} (G : Glb K mg "pair_in_word" ["word"] sPairInWord f fd) (GN : Glb K mg "number_in_word" ["word"] sNumberInWord fN fdN) (FN : FnOk P w K mg base (CX1 P w) 1 fN fdN ["word"] (spNumWord C)) (hBN : mg "BadNote" = some (.ref C)) (hqBN : PySem.W.excIn K C bmV "ValueError.__new__" = true) (n_len : mg "len" = none) : FnOk P w K mg base (CX1 P w) 2 f fd ["word"] (spPairWord C) := by
  refine G.fn.ok1 scPairWord (fun vs H Q E h => ?_) (fun cdv A outer s H vs Q E hr h => ?_)
  · obtain ⟨t, rfl, _⟩ := h; rfl
  · obtain ⟨t, rfl, hz, hok, kQ, kE⟩ := h
    have nd := scPairWord.nd
    have two : ∀ p : Nat × Nat, p.1 ≤ 60 → p.2 ≤ 60 → t = wP p → Txt.split t hy = [nS p.1, nS p.2] := fun p h1 h2 e => split_two.mpr ⟨e, (nS_ok p.1 h1).2.2.1, (nS_ok p.2 h2).2.2.1⟩
    refine ⟨_, (pss_cons (ps_set (i := 1) nd rfl (Or.inl rfl) (pe_bm PySem.F.plainAttrs_str PySem.F.slot_str_split PySem.F.type_str_split mt_split (pv 0) (pa_cons pe_str pa_nil)))
      (pss_cons (ps_if (pt_cmpR op_ne (pe_callB call_len_seq (by rfl) n_len PySem.boot_len (pa_cons (pv 1) pa_nil)) pe_int (nomark _)) (pss_one (ps_raise (by rfl) hBN hqBN (pa_cons pe_str pa_nil))) pss_nil)
      (pss_one (ps_ret (pe_tup (pa_cons (pe_call FN hr rfl GN.mgf GN.fn.kp GN.bd .nil pass1 (pa_cons (pe_ix ix_list (pv 1) pe_int (fun _ _ => rfl)) pa_nil)) (pa_cons (pe_call FN hr rfl GN.mgf GN.fn.kp GN.bd .nil pass1 (pa_cons (pe_ix ix_list (pv 1) pe_int (fun _ _ => rfl)) pa_nil)) pa_nil))))))), ?_⟩
    refine ⟨_, rfl, rfl, t, hy, rfl, rfl, by decide +kernel, hz, fun l hl => ?_⟩
    have s1 : Same H (upd H l (.lst ((Txt.split t hy).map V.str))) := same_upd hl
    refine ⟨_, rfl, l, _, rfl, .inl (SqL.of upd_same), rfl, _, rfl, ?_⟩
    by_cases c : (Txt.split t hy).length = 2
    · rw [decide_eq_true (show V.int (((Txt.split t hy).map V.str).length : Nat) = V.int 2 by rw [List.length_map, c]; rfl)]
      obtain ⟨x, y, exy⟩ : ∃ x y, Txt.split t hy = [x, y] := by
        cases h1 : Txt.split t hy with
        | nil => rw [h1] at c; simp at c
        | cons x r =>
          cases r with
          | nil => rw [h1] at c; simp at c
          | cons y r =>
            cases r with
            | nil => exact ⟨x, y, rfl⟩
            | cons _ _ => rw [h1] at c; simp at c
      obtain ⟨et, fx, fy⟩ := split_two.mp exy
      have hlx : x.length ≤ 10000 ∧ y.length ≤ 10000 := by rw [et, len_app, len_app] at hz; omega
      have hoks : okT x ∧ okT y := by
        rw [et] at hok
        have h1 := okT_app.mp hok
        exact ⟨(okT_app.mp h1.1).1, h1.2⟩
      refine iteF ?_
      refine ⟨_, rfl, l, _, _, .str x, rfl, rfl, SqL.of upd_same, by rw [exy]; rfl, x, rfl, hlx.1, hoks.1, fun a ha ea H2 s2 => ?_, fun z H2 s2 => kE (fun p h1 h2 e => ?_) H2 (s1.trans s2)⟩
      · refine ⟨_, rfl, l, _, _, .str y, rfl, rfl, SqL.of (s2 _ _ upd_same), by rw [exy]; rfl, y, rfl, hlx.2, hoks.2, fun b hb eb H3 s3 => ?_, fun z H3 s3 => kE (fun p h1 h2 e => ?_) H3 ((s1.trans s2).trans s3)⟩
        · refine ⟨by show 2 ≤ sizeLine; decide, fun q hq => ?_⟩
          exact kQ (a, b) ha hb (by rw [et, ea, eb]; rfl) _ _ (((s1.trans s2).trans s3).trans (same_upd hq)) ⟨q, rfl, upd_same⟩
        · have := two p h1 h2 e
          rw [exy] at this
          injection this with _ this
          injection this with this _
          exact z p.2 h2 this
      · have := two p h1 h2 e
        rw [exy] at this
        injection this with this _
        exact z p.1 h1 this
    · rw [decide_eq_false (by intro z; injection z with z; rw [List.length_map] at z; omega)]
      refine iteT ⟨by show 1 ≤ sizeLine; decide, kE (fun p h1 h2 e => c ?_) _ s1⟩
      rw [two p h1 h2 e]; rfl
end
end My
namespace My
open PySem L2 Pl
theorem wP_inj {p q : Nat × Nat} (hp : p.1 ≤ 60 ∧ p.2 ≤ 60) (hq : q.1 ≤ 60 ∧ q.2 ≤ 60) (e : wP p = wP q) : p = q := by
  have a := split_two.mpr ⟨(rfl : wP q = nS q.1 ++ hy ++ nS q.2), (nS_ok q.1 hq.1).2.2.1, (nS_ok q.2 hq.2).2.2.1⟩
  have b := split_two.mpr ⟨(rfl : wP p = nS p.1 ++ hy ++ nS p.2), (nS_ok p.1 hp.1).2.2.1, (nS_ok p.2 hp.2).2.2.1⟩
  rw [← e, b] at a
  injection a with a1 a2
  injection a2 with a2 _
  exact Prod.ext (nS_inj hp.1 hq.1 a1) (nS_inj hp.2 hq.2 a2)
theorem wPs_inj : ∀ {a b : List (Nat × Nat)}, (∀ p ∈ a, p.1 ≤ 60 ∧ p.2 ≤ 60) → (∀ p ∈ b, p.1 ≤ 60 ∧ p.2 ≤ 60) → a.map wP = b.map wP → a = b
  | [], [], _, _, _ => rfl
  | [], _ :: _, _, _, h => by cases h
  | _ :: _, [], _, _, h => by cases h
  | x :: a, y :: b, ha, hb, h => by
    rw [List.map_cons, List.map_cons] at h
    injection h with h1 h2
    rw [wP_inj (ha x List.mem_cons_self) (hb y List.mem_cons_self) h1, wPs_inj (fun p hp => ha p (List.mem_cons_of_mem _ hp)) (fun p hp => hb p (List.mem_cons_of_mem _ hp)) h2]
end My
namespace My
open PySem L2 Pl
theorem cut_tail (x : V) (r : List V) : cutV (x :: r) (some 1) none = r := by
  unfold cutV
  simp [HT.sIx]
abbrev castI (p : Nat × Nat) : Pi2 := ((p.1 : Int), (p.2 : Int))
/-- the text writes this pairing -/
def Reads (t : Str) (n : Nat) (ps : List (Nat × Nat)) : Prop := Txt.split t sp = wN n :: ps.map wP ∧ n ≤ 60 ∧ (∀ p ∈ ps, p.1 ≤ 60 ∧ p.2 ≤ 60) ∧ ¬ Bad n (ps.map castI)
/-- a pair, of a word -/
def PrW (H : Hp) (v : V) (w : Str) : Prop := ∃ p : Nat × Nat, p.1 ≤ 60 ∧ p.2 ≤ 60 ∧ w = wP p ∧ PrT H v p
theorem PrW.same {H H' : Hp} {v : V} {w : Str} (s : Same H H') : PrW H v w → PrW H' v w := fun ⟨p, h1, h2, h3, h4⟩ => ⟨p, h1, h2, h3, h4.same s⟩
theorem prw_all {H : Hp} : ∀ {ys : List V} {ws : List Str}, Paired (PrW H) ys ws → ∃ ps : List (Nat × Nat), ws = ps.map wP ∧ (∀ p ∈ ps, p.1 ≤ 60 ∧ p.2 ≤ 60) ∧ Paired (PrT H) ys ps
  | _, _, .nil => ⟨[], rfl, (fun _ h => by cases h), .nil⟩
  | _, _, .cons ⟨p, h1, h2, h3, h4⟩ r => by
    obtain ⟨ps, e, q1, q2⟩ := prw_all r
    refine ⟨p :: ps, by rw [e, h3]; rfl, fun x hx => ?_, .cons h4 q2⟩
    rcases List.mem_cons.mp hx with z | z
    · rw [z]; exact ⟨h1, h2⟩
    · exact q1 x z
section
variable {P : Program} {w : World} {K : PySem.W.Frag} {mg : Str → Option Value} {base : Heap}
/-! ### read -/
def spRead (C : Addr) : Sp := fun vs H Q E => ∃ t : Str, vs = [.str t] ∧ t.length ≤ 10000 ∧ okT t ∧ (Txt.split t sp).length ≤ 61 ∧ (∀ n ps, Reads t n ps → ∀ v H', Same H H' → IsP H' v n ps → Q v H') ∧ ((∀ n ps, ¬ Reads t n ps) → ∀ o H', Same H H' → E (.ref C) o H')
theorem scRead : FnScope ["text", "words", "pairing"] ["text"] (defScope sRead) := ⟨rfl, rfl, rfl, by decide +kernel, rfl, by decide +kernel, by decide +kernel⟩
theorem ok_read {f fP fQ fLk C CL : Addr} {fd fdP fdQ fdLk : FuncData} (G : Glb K mg "read" ["text"] sRead f fd) (GP : Glb K mg "points_in_word" ["word"] sPointsInWord fP fdP) (GQ : Glb K mg "pair_in_word" ["word"] sPairInWord fQ fdQ) (GLk : Glb K mg "looked" ["pairing"] sLooked fLk fdLk)
    (FP : FnOk P w K mg base (CX1 P w) 3 fP fdP ["word"] (spPtsWord C)) (FQ : FnOk P w K mg base (CX1 P w) 3 fQ fdQ ["word"] (spPairWord C)) (FLk : FnOk P w K mg base (CX1 P w) 3 fLk fdLk ["pairing"] (spLooked CL)) (hNP : mg "NoPairing" = some (.ref CL)) (hCa : Caught K CL CL) (hBN : mg "BadNote" = some (.ref C)) (hqBN : PySem.W.excIn K C bmV "ValueError.__new__" = true) (n_tuple : mg "tuple" = none) : FnOk P w K mg base (CX1 P w) 4 f fd ["text"] (spRead C) := by
  refine G.fn.ok1 scRead (fun vs H Q E h => ?_) (fun cdv A outer s H vs Q E hr h => ?_)
  · obtain ⟨t, rfl, _⟩ := h; rfl
  · obtain ⟨t, rfl, hlen, hok, hwl, k, kE⟩ := h
    have nd := scRead.nd
    refine ⟨_, (pss_cons (ps_set (i := 1) nd rfl (Or.inl rfl) (pe_bm PySem.F.plainAttrs_str PySem.F.slot_str_split PySem.F.type_str_split mt_split (pv 0) (pa_cons pe_str pa_nil)))
      (pss_cons (ps_set (i := 2) nd rfl (Or.inl rfl) (pe_tup (pa_cons (pe_call FP hr rfl GP.mgf GP.fn.kp GP.bd .nil pass1 (pa_cons (pe_ix ix_list (pv 1) pe_int (fun _ _ => rfl)) pa_nil)) (pa_cons (pe_callTy call_tuple_of (by rfl) n_tuple PyProof.Rows.boot_tuple (pa_cons (pe_compX (js := []) (ys := []) (cl := []) (by exact ⟨rfl, by decide +kernel, by decide +kernel, rfl, rfl, .nil, (fun _ _ h => nomatch h), has_of (List.forall_mem_cons.mpr ⟨(fun z => by rcases z with z | z <;> cases z), List.forall_mem_cons.mpr ⟨(fun z => by rcases z with z | z <;> cases z), List.forall_mem_cons.mpr ⟨(fun z => by rcases z with z | z <;> cases z), (fun _ h => nomatch h)⟩⟩⟩), by decide +kernel⟩) rfl rfl rfl rfl xout1 (pi_list (pe_slice sl_list (pv 1) (po_some pe_int) po_none)) (fun C s H fp => pif_nil) (fun C s H fp Z hZ => (pe_call FQ hr rfl GQ.mgf GQ.fn.kp GQ.bd .nil (fun pins σ H s e s' I h => hZ pins σ H s e s' I.unwish h) (pa_cons (pv 0) pa_nil)))) pa_nil)) pa_nil))))
      (pss_cons (ps_tryR (pxs_expr (px_call FLk hr rfl GLk.mgf GLk.fn.kp GLk.bd rfl (fun xe => (pa_cons (pv 2) pa_nil)))) (by rfl) hNP (by rfl) hBN hqBN (fun x => (pa_cons pe_str pa_nil)))
      (pss_one (ps_ret (pv 2)))))), ?_⟩
    obtain ⟨w0, ws, hws⟩ : ∃ w0 ws, Txt.split t sp = w0 :: ws := by
      cases e : Txt.split t sp with
      | nil => rw [sp_is] at e; exact absurd e (split_ne t 32)
      | cons a b => exact ⟨a, b, rfl⟩
    have hw : ∀ x ∈ w0 :: ws, x.length ≤ 10000 ∧ okT x := fun x hx => by
      rw [← hws, sp_is] at hx
      obtain ⟨a, b, _⟩ := split_word hx
      exact ⟨by omega, fun y hy => hok y (b y hy)⟩
    rw [hws] at hwl
    have hwl' : ws.length ≤ 60 := by simpa using hwl
    refine ⟨_, rfl, rfl, t, sp, rfl, rfl, by decide +kernel, by omega, fun l hl => ?_⟩
    rw [hws]
    have s1 : Same H (upd H l (.lst ((w0 :: ws).map V.str))) := same_upd hl
    refine ⟨_, rfl, l, _, _, .str w0, rfl, rfl, SqL.of upd_same, at_nat (j := 0) rfl, w0, rfl, (hw w0 List.mem_cons_self).1, (hw w0 List.mem_cons_self).2, fun n h60 en H2 s2 => ?_, fun z H2 s2 => kE (fun n ps hr => ?_) _ _ (s1.trans s2)⟩
    · have hl2 := s2 _ _ (show (upd H l (.lst ((w0 :: ws).map V.str))) l = _ from upd_same)
      refine ⟨_, rfl, _, rfl, l, _, rfl, SqL.of hl2, fun d hd => ?_⟩
      rw [show (w0 :: ws).map V.str = V.str w0 :: ws.map V.str from rfl, cut_tail]
      have s3 : Same H2 (upd H2 d (.lst (ws.map V.str))) := same_upd hd
      refine ⟨d, rfl, ⟨_, SqL.of upd_same⟩, fun D hD => ?_⟩
      refine comp_data (xs := ws.map V.str) (ds := ws) (fun _ => true) id PrW (by rw [List.length_map]) (small1000 (by rw [List.length_map]; omega)) hD (fun _ _ _ _ s h => h.same s) (fun H1 ys zs v b _ hD1 ⟨p, h1, h2, h3, a, e, ha⟩ => ⟨p, h1, h2, h3, a, e, by rw [upd_ne (ne_of ha hD1 (by intro z; cases z))]; exact ha⟩)
        (fun i H' hi s => ⟨_, _, s.seq (SqL.of upd_same), List.getElem?_eq_getElem hi⟩) (fun i H' x H'' hi s y => ⟨y.1, y.2 _ (s.seq (SqL.of upd_same))⟩) (fun H' s => ⟨_, s.seq (SqL.of upd_same), Nat.le_refl _⟩)
        (fun i x wd hx hp2 H' s' _ R hR hN => ?_) fun H4 ys hys hpy s4 => ?_
      · rw [List.getElem?_map, hp2] at hx
        have ex : V.str wd = x := by simpa using hx
        subst ex
        have hmem := List.mem_of_getElem? hp2
        refine yes_then ⟨_, rfl, wd, rfl, (hw wd (List.mem_cons_of_mem _ hmem)).1, (hw wd (List.mem_cons_of_mem _ hmem)).2, fun q h1 h2 e v H5 s5 hv => hR rfl v H5 s5 ⟨q, h1, h2, e, hv⟩, fun z H5 s5 => kE (fun n' ps hr => ?_) _ _ ((((s1.trans s2).trans s3).trans s').trans s5)⟩
        obtain ⟨r1, _, r3, _⟩ := hr
        rw [hws] at r1
        injection r1 with _ r1
        rw [r1] at hmem
        obtain ⟨p, hp, e⟩ := List.mem_map.mp hmem
        exact z p (r3 p hp).1 (r3 p hp).2 e.symm
      · rw [List.filter_eq_self.mpr (fun _ _ => rfl), List.map_id] at hpy
        obtain ⟨ps, eps, hle, hpp⟩ := prw_all hpy
        refine ⟨D, ys, rfl, .inl ⟨SqL.of hys, fun tp htp => ⟨by show 2 ≤ sizeLine; decide, fun tt htt => ?_⟩⟩⟩
        have nt : tt ≠ tp := by
          rintro rfl
          rw [upd_same] at htt
          cases htt
        have sT : Same H4 (upd (upd H4 tp (.tup ys)) tt (.tup [.int n, .ref tp])) := (same_upd htp).trans (same_upd htt)
        have hip : IsP (upd (upd H4 tp (.tup ys)) tt (.tup [.int n, .ref tp])) (.ref tt) n ps := ⟨tt, tp, ys, rfl, upd_same, by rw [upd_ne nt.symm, upd_same], L2.Paired.mapP hpp fun v p h => h.same sT⟩
        have hpl : ps.length ≤ 60 := by rw [eps, List.length_map] at hwl'; exact hwl'
        have sA := ((((s1.trans s2).trans s3).trans s4).trans sT)
        refine ⟨_, rfl, .ref tt, n, _, rfl, IsP.pi hip, by rw [List.length_map]; omega, fun bad H5 s5 => ⟨rfl, CL, rfl, hCa, fun x hx => ⟨by show 1 ≤ sizeLine; decide, upd_same, kE (fun n' ps' hr => ?_) _ _ ((sA.trans s5).trans (same_upd hx))⟩⟩, fun good H5 s5 => ?_⟩
        · obtain ⟨r1, r2, r3, r4⟩ := hr
          rw [hws] at r1
          injection r1 with ra rb
          have en' : n' = n := nS_inj r2 h60 (app_co_inj (show nS n' ++ co = nS n ++ co from ra.symm.trans en))
          subst en'
          have : ps' = ps := wPs_inj r3 hle (rb.symm.trans eps)
          subst this
          exact r4 bad
        · exact ⟨_, rfl, k n ps ⟨by rw [hws, en, eps], h60, hle, good⟩ _ H5 (sA.trans s5) (hip.same s5)⟩
    · obtain ⟨r1, r2, _⟩ := hr
      rw [hws] at r1
      injection r1 with ra _
      exact z n r2 ra
end
end My
namespace Pl
open PySem
/-! ### the law's own numbers and words -/
def asc (t : Str) : Prop := ∀ c ∈ t.cps.toList, c < 128
theorem len_toList (t : Str) : t.cps.toList.length = t.length := by simp [Str.length]
theorem asc_all {t : Str} (h : asc t) : t.cps.all (· < 128) = true := by
  rw [Array.all_eq_true_iff_forall_mem]
  exact fun c hc => decide_eq_true (h c (by simpa using hc))
theorem asc_okT {t : Str} (h : asc t) : okT t := fun c hc => Nat.lt_trans (h c hc) (by decide)
theorem asc_app {a b : Str} : asc (a ++ b) ↔ asc a ∧ asc b := by
  unfold asc
  rw [app_toList]
  constructor
  · intro h; exact ⟨fun c hc => h c (List.mem_append_left _ hc), fun c hc => h c (List.mem_append_right _ hc)⟩
  · rintro ⟨h1, h2⟩ c hc
    rcases List.mem_append.mp hc with hc | hc
    · exact h1 c hc
    · exact h2 c hc
theorem str_toList (l : List Nat) : (⟨l.toArray⟩ : Str).cps.toList = l := by simp
def dgs : Str := "0123456789"
theorem dgs_is : dgs.cps.toList = [48, 49, 50, 51, 52, 53, 54, 55, 56, 57] := by decide +kernel
def isDg (c : Nat) : Bool := decide (48 ≤ c ∧ c ≤ 57)
theorem dgs_mem (c : Nat) : decide (c ∈ dgs.cps.toList) = isDg c := by
  rw [dgs_is]
  unfold isDg
  apply decide_eq_decide.mpr
  simp
  omega
theorem nS99 : ∀ k, k < 100 → (nS k).length = (if k < 10 then 1 else 2) ∧ (nS k).cps.toList.all isDg = true ∧ (10 ≤ k → (nS k).cps.toList.head? ≠ some 48) := by decide +kernel
theorem nS_one : ∀ d, d < 10 → (⟨#[48 + d]⟩ : Str) = nS d := by decide +kernel
theorem nS_two : ∀ a, a < 10 → ∀ b, b < 10 → a ≠ 0 → (⟨#[48 + a, 48 + b]⟩ : Str) = nS (10 * a + b) := by decide +kernel
theorem nS_inj99 : ∀ a, a < 100 → ∀ b, b < 100 → nS a = nS b → a = b := by
  have h1 : ∀ a, a < 100 → (nS a).cps.toList.foldl (fun n c => 10 * n + (c - 48)) 0 = a := by decide +kernel
  intro a ha b hb e
  rw [← h1 a ha, e, h1 b hb]
theorem dig_nS {t : Str} (h1 : 1 ≤ t.length) (h2 : t.length ≤ 2) (h3 : t.length = 2 → t.cps.toList.head? ≠ some 48) (h4 : ∀ c ∈ t.cps.toList, isDg c = true) : ∃ k, k < 100 ∧ t = nS k := by
  have e : t = ⟨t.cps.toList.toArray⟩ := by simp
  rw [← len_toList] at h1 h2 h3
  rw [e]
  generalize t.cps.toList = l at *
  match l, h1, h2, h3, h4 with
  | [], h1, _, _, _ => simp at h1
  | [c], _, _, _, h4 =>
    have hc := of_decide_eq_true (h4 c (by simp))
    refine ⟨c - 48, by omega, ?_⟩
    have := nS_one (c - 48) (by omega)
    rw [show 48 + (c - 48) = c by omega] at this
    exact this
  | [c, d], _, _, h3, h4 =>
    have hc := of_decide_eq_true (h4 c (by simp))
    have hd := of_decide_eq_true (h4 d (by simp))
    have h0 : c ≠ 48 := fun z => h3 rfl (by rw [z]; rfl)
    refine ⟨10 * (c - 48) + (d - 48), by omega, ?_⟩
    have := nS_two (c - 48) (by omega) (d - 48) (by omega) (by omega)
    rw [show 48 + (c - 48) = c by omega, show 48 + (d - 48) = d by omega] at this
    exact this
  | _ :: _ :: _ :: _, _, h2, _, _ => simp at h2
/-- the number that a word writes, by the law -/
def numL (t : Str) : Int := match (List.range 100).find? (fun k => decide (t = nS k)) with | some k => (k : Int) | none => -1
theorem numL_or (t : Str) : (numL t = -1 ∧ ∀ k, k < 100 → t ≠ nS k) ∨ ∃ k, k < 100 ∧ t = nS k ∧ numL t = k := by
  unfold numL
  cases e : (List.range 100).find? (fun k => decide (t = nS k)) with
  | none =>
    refine .inl ⟨rfl, fun k hk z => ?_⟩
    have := List.find?_eq_none.mp e k (List.mem_range.mpr hk)
    exact this (decide_eq_true z)
  | some k => exact .inr ⟨k, List.mem_range.mp (List.mem_of_find?_eq_some e), by have := List.find?_some e; exact of_decide_eq_true this, rfl⟩
theorem numL_nS {k : Nat} (h : k < 100) : numL (nS k) = k := by
  rcases numL_or (nS k) with ⟨_, z⟩ | ⟨j, hj, e, h2⟩
  · exact absurd rfl (z k h)
  · rw [h2, nS_inj99 k h j hj e]
theorem numL_pos {t : Str} (h : 0 ≤ numL t) : ∃ k, k < 100 ∧ t = nS k ∧ numL t = k := by
  rcases numL_or t with ⟨z, _⟩ | q
  · omega
  · exact q
theorem nS_no (k : Nat) (h : k < 100) (c : Nat) (hc : isDg c = false) : c ∉ (nS k).cps.toList := fun z => by
  have := List.all_eq_true.mp (nS99 k h).2.1 c z
  rw [hc] at this
  cases this
/-! ### cutting at the first hyphen -/
theorem find_hy (w : Str) : (L2.findI w hy = -1 ∧ 45 ∉ w.cps.toList) ∨ ∃ a b : Str, w = a ++ hy ++ b ∧ 45 ∉ a.cps.toList ∧ L2.findI w hy = a.length ∧ StrLaws.sliceText w none (some (a.length : Int)) = a ∧ StrLaws.sliceText w (some ((a.length : Int) + 1)) none = b := by
  unfold L2.findI
  rw [hy_is]
  have hz : ∀ i, StrLaws.At w ⟨#[45]⟩ w.length i ↔ w.cps.toList[i]? = some 45 := fun i => StrLaws.subAt_one w 45 i
  rcases StrLaws.occ_head w ⟨#[45]⟩ 1 (Nat.le_refl _) with ⟨e, h⟩ | ⟨i, r, e, h, hk⟩
  · refine .inl ⟨by rw [e], fun z => ?_⟩
    obtain ⟨i, hi, e2⟩ := List.getElem_of_mem z
    exact h i ((hz i).mpr (by rw [List.getElem?_eq_getElem hi, e2]))
  · have hi := (hz i).mp h
    have hlt : i < w.cps.toList.length := (List.getElem?_eq_some_iff.mp hi).1
    have hd : w.cps.toList.drop i = 45 :: w.cps.toList.drop (i + 1) := by
      rw [List.drop_eq_getElem_cons hlt, (List.getElem?_eq_some_iff.mp hi).2]
    have la : (⟨(w.cps.toList.take i).toArray⟩ : Str).length = i := by
      rw [← len_toList, str_toList, List.length_take]
      omega
    refine .inr ⟨⟨(w.cps.toList.take i).toArray⟩, ⟨(w.cps.toList.drop (i + 1)).toArray⟩, str_eq ?_, ?_, ?_, ?_, ?_⟩
    · rw [app_toList, app_toList, str_toList, str_toList, List.append_assoc]
      show _ = w.cps.toList.take i ++ 45 :: w.cps.toList.drop (i + 1)
      rw [← hd, List.take_append_drop]
    · rw [str_toList]
      intro z
      obtain ⟨k, hk1, e2⟩ := List.getElem_of_mem z
      rw [List.length_take] at hk1
      rw [List.getElem_take] at e2
      exact hk k (by omega) ((hz k).mpr (by rw [List.getElem?_eq_getElem (by omega), e2]))
    · rw [e, la]
    · rw [la, StrLaws.sliceText_to ⟨by omega, by omega⟩]
      apply str_eq
      rw [str_toList, str_toList, List.drop_zero]
      congr 1
    · rw [la, StrLaws.sliceText_from ⟨by omega, by omega⟩]
      apply str_eq
      rw [str_toList, str_toList]
      rw [show ((i : Int) + 1).toNat = i + 1 by omega, List.take_of_length_le]
      rw [List.length_drop]
      omega
theorem last_co (t : Str) : StrLaws.sliceText t (some (-1)) none = co ↔ ∃ u, t = u ++ co := by
  by_cases h0 : t.length = 0
  · have e : t = ⟨#[]⟩ := by
      apply str_eq
      rw [← len_toList] at h0
      exact List.length_eq_zero_iff.mp h0
    constructor
    · intro z
      rw [e] at z
      exact absurd z (by decide +kernel)
    · rintro ⟨u, rfl⟩
      rw [len_app, co_is] at h0
      exact absurd h0 (by simp [Str.length])
  · have hl := len_toList t
    rw [StrLaws.sliceText_from_neg (by decide) (by omega), co_is]
    have e1 : ((-1 : Int) + t.length).toNat = t.length - 1 := by omega
    have e2 : (t.cps.toList.drop (t.length - 1)).length = 1 := by rw [List.length_drop]; omega
    rw [e1, List.take_of_length_le (by rw [e2, hl]; omega)]
    constructor
    · intro z
      have z' : t.cps.toList.drop (t.length - 1) = [58] := by
        have := congrArg (fun s : Str => s.cps.toList) z
        simpa using this
      refine ⟨⟨(t.cps.toList.take (t.length - 1)).toArray⟩, str_eq ?_⟩
      rw [app_toList, str_toList]
      show _ = _ ++ [58]
      rw [← z', List.take_append_drop]
    · rintro ⟨u, e⟩
      apply str_eq
      rw [str_toList]
      have hu := len_toList u
      have : t.length = u.length + 1 := by rw [e, len_app]; rfl
      rw [show t.length - 1 = u.cps.toList.length by omega, e, app_toList, List.drop_left]
/-- the parts of a word, and the pair that it writes, by the law -/
def preH (w : Str) : Str := StrLaws.sliceText w none (some (L2.findI w hy))
def posH (w : Str) : Str := StrLaws.sliceText w (some (L2.findI w hy + 1)) none
def pairL (w : Str) : Pi2 := (numL (preH w), numL (posH w))
theorem cut_hy {w : Str} (h : ¬ L2.findI w hy < 0) : w = preH w ++ hy ++ posH w ∧ 45 ∉ (preH w).cps.toList := by
  rcases find_hy w with ⟨e, _⟩ | ⟨a, b, e, ha, hf, h1, h2⟩
  · rw [e] at h; exact absurd (by decide) h
  · unfold preH posH
    rw [hf, h1, h2]
    exact ⟨e, ha⟩
theorem hy_cut {w a b : Str} (e : w = a ++ hy ++ b) (ha : 45 ∉ a.cps.toList) : ¬ L2.findI w hy < 0 ∧ preH w = a ∧ posH w = b := by
  have hl : ∀ a b : Str, (a ++ hy ++ b).cps.toList = a.cps.toList ++ 45 :: b.cps.toList := fun a b => by
    rw [app_toList, app_toList, List.append_assoc, hy_is]; rfl
  rcases find_hy w with ⟨_, z⟩ | ⟨a', b', e', ha', hf, h1, h2⟩
  · exact absurd (by rw [e, hl]; simp) z
  · have := congrArg (fun s : Str => s.cps.toList) (e.symm.trans e')
    simp only [hl] at this
    obtain ⟨q1, q2⟩ := app_inj ha ha' this
    rw [hf]
    refine ⟨by omega, ?_, ?_⟩
    · unfold preH; rw [hf, h1]; exact str_eq q1.symm
    · unfold posH; rw [hf, h2]; exact str_eq q2.symm
theorem part_asc {w : Str} (h : ¬ L2.findI w hy < 0) (hw : asc w) : asc (preH w) ∧ asc (posH w) ∧ (preH w).length ≤ w.length ∧ (posH w).length ≤ w.length := by
  obtain ⟨e, _⟩ := cut_hy h
  rw [e] at hw
  have h1 := asc_app.mp hw
  have hl : w.length = (preH w).length + hy.length + (posH w).length := by conv => lhs; rw [e, len_app, len_app]
  exact ⟨(asc_app.mp h1.1).1, h1.2, by omega, by omega⟩
end Pl
namespace My
open PySem L2 Pl
theorem pairL_wP {p : Nat × Nat} (h1 : p.1 ≤ 60) (h2 : p.2 ≤ 60) : ¬ findI (wP p) hy < 0 ∧ pairL (wP p) = castI p := by
  obtain ⟨a, b, c⟩ := hy_cut (rfl : wP p = nS p.1 ++ hy ++ nS p.2) (nS_no p.1 (by omega) 45 (by decide))
  refine ⟨a, ?_⟩
  unfold pairL
  rw [b, c, numL_nS (by omega), numL_nS (by omega)]
theorem pairL_back {w : Str} (h : ¬ findI w hy < 0) (h1 : 0 ≤ (pairL w).1) (h2 : 0 ≤ (pairL w).2) : ∃ p : Nat × Nat, w = wP p ∧ pairL w = castI p := by
  obtain ⟨e, _⟩ := cut_hy h
  obtain ⟨i, _, e1, e2⟩ := numL_pos h1
  obtain ⟨j, _, e3, e4⟩ := numL_pos h2
  refine ⟨(i, j), ?_, Prod.ext e2 e4⟩
  unfold wP
  rw [← e1, ← e3]
  exact e
theorem pts2_mem {ks : List Pi2} {p : Pi2} (h : p ∈ ks) : p.1 ∈ pts2 ks ∧ p.2 ∈ pts2 ks := by
  unfold pts2
  exact ⟨List.mem_flatMap.mpr ⟨p, h, by simp⟩, List.mem_flatMap.mpr ⟨p, h, by simp⟩⟩
theorem pairs_back : ∀ {ws : List Str} {n : Int}, n ≤ 60 → (∀ w ∈ ws, ¬ findI w hy < 0 ∧ 0 ≤ (pairL w).1 ∧ (pairL w).1 < n ∧ 0 ≤ (pairL w).2 ∧ (pairL w).2 < n) → ∃ ps : List (Nat × Nat), ws = ps.map wP ∧ ws.map pairL = ps.map castI ∧ ∀ p ∈ ps, p.1 ≤ 60 ∧ p.2 ≤ 60
  | [], _, _, _ => ⟨[], rfl, rfl, fun _ h => by cases h⟩
  | w :: ws, n, hn, h => by
    obtain ⟨ps, e1, e2, h3⟩ := pairs_back hn fun w hw => h w (List.mem_cons_of_mem _ hw)
    obtain ⟨a, b, c, d, e⟩ := h w List.mem_cons_self
    obtain ⟨p, ep, eq⟩ := pairL_back a b d
    refine ⟨p :: ps, by rw [List.map_cons, ← ep, e1], by rw [List.map_cons, List.map_cons, eq, e2], fun q hq => ?_⟩
    rcases List.mem_cons.mp hq with rfl | hq
    · rw [eq] at c e
      simp only [castI] at c e
      omega
    · exact h3 q hq
theorem pairs_there : ∀ {ps : List (Nat × Nat)}, (∀ p ∈ ps, p.1 ≤ 60 ∧ p.2 ≤ 60) → (ps.map wP).map pairL = ps.map castI
  | [], _ => rfl
  | p :: ps, h => by
    rw [List.map_cons, List.map_cons, List.map_cons, (pairL_wP (h p List.mem_cons_self).1 (h p List.mem_cons_self).2).2, pairs_there fun q hq => h q (List.mem_cons_of_mem _ hq)]
end My
namespace My
open PySem L2 Pl
theorem reads_there {t w0 : Str} {ws : List Str} {n : Nat} {ps : List (Nat × Nat)} (hs : Txt.split t sp = w0 :: ws) (h : Reads t n ps) : w0 = wN n ∧ (∀ w ∈ ws, ¬ findI w hy < 0) ∧ ws.map pairL = ps.map castI ∧ n ≤ 60 ∧ ¬ Bad n (ps.map castI) := by
  obtain ⟨h1, h2, h3, h4⟩ := h
  rw [hs] at h1
  injection h1 with e1 e2
  refine ⟨e1, fun w hw => ?_, by rw [e2, pairs_there h3], h2, h4⟩
  rw [e2] at hw
  obtain ⟨p, hp, rfl⟩ := List.mem_map.mp hw
  exact (pairL_wP (h3 p hp).1 (h3 p hp).2).1
theorem reads_back {t w0 u : Str} {ws : List Str} (hs : Txt.split t sp = w0 :: ws) (hu : w0 = u ++ co) (hf : ∀ w ∈ ws, ¬ findI w hy < 0) (hlt : ∀ p ∈ ws.map pairL, p.1 < p.2) (hsort : (ws.map pairL).Pairwise (fun a b => lexI b a = false)) (h0 : 0 ≤ numL u) (h60 : numL u ≤ 60) (hnd : (pts2 (ws.map pairL)).Nodup) (hr : ∀ x ∈ pts2 (ws.map pairL), 0 ≤ x ∧ x < numL u) :
    ∃ (n : Nat) (ps : List (Nat × Nat)), Reads t n ps ∧ numL u = n ∧ ws.map pairL = ps.map castI := by
  obtain ⟨n, _, en, en2⟩ := numL_pos h0
  obtain ⟨ps, e1, e2, e3⟩ := pairs_back (ws := ws) h60 fun w hw => by
    obtain ⟨m1, m2⟩ := pts2_mem (List.mem_map_of_mem (f := pairL) hw)
    exact ⟨hf w hw, (hr _ m1).1, (hr _ m1).2, (hr _ m2).1, (hr _ m2).2⟩
  refine ⟨n, ps, ⟨?_, by omega, e3, ?_⟩, en2, e2⟩
  · rw [hs, hu, e1, en]; rfl
  · rw [← e2]
    rintro ((z | z) | ⟨p, hp, z⟩ | z | z)
    · omega
    · omega
    · have a := hlt p hp
      obtain ⟨m1, m2⟩ := pts2_mem hp
      have b := hr _ m1
      have c := hr _ m2
      rw [en2] at c
      rcases z with z | z | z <;> omega
    · exact z hnd
    · exact z hsort
theorem sorted_snoc {ks : List Pi2} {p : Pi2} (h : ks.Pairwise (fun a b => lexI b a = false)) (hl : ∀ q, ks.getLast? = some q → lexI p q = false) : (ks ++ [p]).Pairwise (fun a b => lexI b a = false) := by
  rw [List.pairwise_append]
  refine ⟨h, by simp, fun a ha b hb => ?_⟩
  rw [List.mem_singleton.mp hb]
  rcases List.eq_nil_or_concat ks with e | ⟨l, q, e⟩
  · rw [e] at ha; cases ha
  · rw [List.concat_eq_append] at e
    have hq := hl q (by rw [e]; simp)
    rw [e] at ha h
    rcases List.mem_append.mp ha with z | z
    · exact lexI_tr ((List.pairwise_append.mp h).2.2 a z q (by simp)) hq
    · rw [List.mem_singleton.mp z]; exact hq
theorem sorted_last {ks : List Pi2} {p : Pi2} (h : (ks ++ [p]).Pairwise (fun a b => lexI b a = false)) : ∀ q, ks.getLast? = some q → lexI p q = false := fun q hq => (List.pairwise_append.mp h).2.2 q (List.mem_of_getLast? hq) p (by simp)
end My
namespace Pl
open PySem
/-! ### a text with a sign put in, set or left out -/
theorem slice_over {t : Str} {i : Int} (h : (t.length : Int) ≤ i) : StrLaws.sliceText t (some i) none = StrLaws.sliceText t (some (t.length : Int)) none := by
  have e : Builtin.Str.strSliceIndices (some i) none 1 t.length = Builtin.Str.strSliceIndices (some (t.length : Int)) none 1 t.length := by
    have a : ¬ i < 0 := by omega
    have b : ¬ ((t.length : Int) < 0) := by omega
    have c : min i (t.length : Int) = (t.length : Int) := by omega
    simp [Builtin.Str.strSliceIndices, a, b, c]
  unfold StrLaws.sliceText
  rw [e]
theorem slice_drop (t : Str) {i : Int} (h : 0 ≤ i) : StrLaws.sliceText t (some i) none = ⟨(t.cps.toList.drop i.toNat).toArray⟩ := by
  have hl := len_toList t
  have key : ∀ i : Int, 0 ≤ i → i ≤ t.length → StrLaws.sliceText t (some i) none = ⟨(t.cps.toList.drop i.toNat).toArray⟩ := fun i h1 h2 => by
    rw [StrLaws.sliceText_from ⟨h1, by omega⟩, List.take_of_length_le (by rw [List.length_drop]; omega)]
  by_cases c : i ≤ t.length
  · exact key i h c
  · rw [slice_over (by omega), key _ (by omega) (Int.le_refl _)]
    rw [List.drop_of_length_le (show t.cps.toList.length ≤ (t.length : Int).toNat by omega), List.drop_of_length_le (show t.cps.toList.length ≤ i.toNat by omega)]
theorem slice_take (t : Str) {i : Int} (h : 0 ≤ i) (h2 : i ≤ t.length) : StrLaws.sliceText t none (some i) = ⟨(t.cps.toList.take i.toNat).toArray⟩ := by
  rw [StrLaws.sliceText_to ⟨h, by rw [len_toList]; exact h2⟩, List.drop_zero, Int.sub_zero]
structure Fine (t x : Str) : Prop where
  asc : asc x
  len : x.length ≤ t.length + 20
  cnt : x.cps.toList.count 32 ≤ t.cps.toList.count 32 + 5
theorem fine_cut {t : Str} {i j : Nat} (hij : i ≤ j) (ht : asc t) : asc (⟨(t.cps.toList.take i).toArray⟩ ++ ⟨(t.cps.toList.drop j).toArray⟩ : Str) ∧ (⟨(t.cps.toList.take i).toArray⟩ ++ ⟨(t.cps.toList.drop j).toArray⟩ : Str).length ≤ t.length ∧ (⟨(t.cps.toList.take i).toArray⟩ ++ ⟨(t.cps.toList.drop j).toArray⟩ : Str).cps.toList.count 32 ≤ t.cps.toList.count 32 := by
  have hs : List.Sublist (t.cps.toList.take i ++ t.cps.toList.drop j) t.cps.toList := by
    have h1 : List.Sublist (t.cps.toList.drop j) (t.cps.toList.drop i) := by
      rw [show j = i + (j - i) by omega, ← List.drop_drop]
      exact List.drop_sublist _ _
    have := (List.Sublist.refl (t.cps.toList.take i)).append h1
    rw [List.take_append_drop] at this
    exact this
  have e : (⟨(t.cps.toList.take i).toArray⟩ ++ ⟨(t.cps.toList.drop j).toArray⟩ : Str).cps.toList = t.cps.toList.take i ++ t.cps.toList.drop j := by rw [app_toList, str_toList, str_toList]
  refine ⟨fun c hc => ht c (hs.subset (by rw [e] at hc; exact hc)), ?_, ?_⟩
  · rw [← len_toList, ← len_toList, e]; exact hs.length_le
  · rw [e]; exact hs.count_le 32
theorem fine_two {t : Str} {i j : Nat} (hij : i ≤ j) (ht : asc t) : Fine t (⟨(t.cps.toList.take i).toArray⟩ ++ ⟨(t.cps.toList.drop j).toArray⟩) := by
  obtain ⟨h1, h2, h3⟩ := fine_cut hij ht
  exact ⟨h1, by omega, by omega⟩
theorem fine_three {t : Str} {i j c : Nat} (hij : i ≤ j) (ht : asc t) (hc : c < 128) : Fine t (⟨(t.cps.toList.take i).toArray⟩ ++ ⟨#[c]⟩ ++ ⟨(t.cps.toList.drop j).toArray⟩) := by
  obtain ⟨h1, h2, h3⟩ := fine_cut hij ht
  have a := asc_app.mp h1
  have hs : ∀ x ∈ (⟨#[c]⟩ : Str).cps.toList, x < 128 := fun x hx => by
    have : x = c := by simpa using hx
    omega
  refine ⟨asc_app.mpr ⟨asc_app.mpr ⟨a.1, hs⟩, a.2⟩, ?_, ?_⟩
  · rw [len_app] at h2
    rw [len_app, len_app, show (⟨#[c]⟩ : Str).length = 1 from rfl]
    omega
  · rw [app_toList, List.count_append] at h3
    rw [app_toList, app_toList, List.count_append, List.count_append]
    have : (⟨#[c]⟩ : Str).cps.toList.count 32 ≤ 1 := Nat.le_trans List.count_le_length (Nat.le_refl _)
    omega
end Pl
namespace Pl
theorem nodup_le : ∀ (n : Nat) (l : List Nat), l.Nodup → (∀ x ∈ l, x < n) → l.length ≤ n
  | 0, l, _, h => by
    cases l with
    | nil => exact Nat.le_refl _
    | cons a r => exact absurd (h a List.mem_cons_self) (Nat.not_lt_zero _)
  | n + 1, l, nd, h => by
    by_cases c : n ∈ l
    · have h1 := nodup_le n (l.erase n) (nd.erase n) fun x hx => by
        have h2 := (nd.mem_erase_iff).mp hx
        have := h x h2.2
        have := h2.1
        omega
      rw [List.length_erase_of_mem c] at h1
      omega
    · have := nodup_le n l nd fun x hx => by
        have h1 := h x hx
        have h2 : x ≠ n := fun e => c (e ▸ hx)
        omega
      omega
theorem Prs.two {n : Nat} {ps : List (Nat × Nat)} (h : Prs n ps) : 2 * ps.length ≤ n := by
  have e : (ps.flatMap (fun x => [x.1, x.2])).length = 2 * ps.length := by
    clear h
    induction ps with
    | nil => rfl
    | cons a r ih => rw [List.flatMap_cons, List.length_append, ih]; simp only [List.length_cons, List.length_nil]; omega
  rw [← e]
  refine nodup_le n _ h.nd fun x hx => ?_
  obtain ⟨p, hp, hx⟩ := List.mem_flatMap.mp hx
  have := h.pr p hp
  have : x = p.1 ∨ x = p.2 := by simpa using hx
  omega
end Pl
namespace My
open PySem L2 Pl PySem.W
theorem boot_ve : bootBuiltins "ValueError" = some (.type "ValueError") := by decide +kernel
/-- the classes of exceptions, the one that is raised first -/
structure ExcG (K : Frag) (mg : Str → Option Value) (n1 n2 n3 n4 n5 : Str) (CPE C1 C2 C3 C4 C5 : Addr) : Prop where
  pe : mg "PairError" = some (.ref CPE)
  m1 : mg n1 = some (.ref C1)
  m2 : mg n2 = some (.ref C2)
  m3 : mg n3 = some (.ref C3)
  m4 : mg n4 = some (.ref C4)
  m5 : mg n5 = some (.ref C5)
  made : excIn K C1 bmV "ValueError.__new__" = true
  cls : ExcCls K C1
  caught : Caught K C1 CPE
  k1 : kitOne K (.ref C1) (.ref C1) = some true
  k2 : kitOne K (.ref C1) (.ref C2) = some false
  k3 : kitOne K (.ref C1) (.ref C3) = some false
  k4 : kitOne K (.ref C1) (.ref C4) = some false
  k5 : kitOne K (.ref C1) (.ref C5) = some false
  k6 : kitOne K (.ref C1) (.type "ValueError") = some true
theorem six_rp {K : Frag} {H : Hp} : RpAll K H [.bl true, .bl false, .bl false, .bl false, .bl false, .bl true] [.bool true, .bool false, .bool false, .bool false, .bool false, .bool true] := .cons (.bl _) (.cons (.bl _) (.cons (.bl _) (.cons (.bl _) (.cons (.bl _) (.cons (.bl _) .nil)))))
end My
namespace My
open PySem L2 Pl
theorem nS99i : ∀ k, k < 100 → intText? (nS k) = some (k : Int) := by decide +kernel
section
variable {P : Program} {w : World} {K : PySem.W.Frag} {mg : Str → Option Value} {base : Heap}
/-! ### _law_number -/
def spLNum : Sp := fun vs H Q _ => ∃ t : Str, vs = [.str t] ∧ asc t ∧ t.length ≤ 10000 ∧ ∀ H', Same H H' → Q (.int (numL t)) H'
theorem scLNum : FnScope ["word"] ["word"] (defScope sLNumber) := ⟨rfl, rfl, rfl, by decide +kernel, rfl, by decide +kernel, by decide +kernel⟩
theorem ok_lnum {f : Addr} {fd : FuncData} (G : Glb K mg "_law_number" ["word"] sLNumber f fd) (n_len : mg "len" = none) (n_int : mg "int" = none) : FnOk P w K mg base CX0 1 f fd ["word"] spLNum := by
  refine G.fn.ok scLNum (fun vs H Q E h => ?_) (fun cdv A outer s H vs Q E hr h => ?_)
  · obtain ⟨t, rfl, _⟩ := h; rfl
  · obtain ⟨t, rfl, ha, hlen, k⟩ := h
    have nd := scLNum.nd
    refine ⟨_, (pss_cons (ps_if (PW.pt (pw_or (pt_not (pt_chain op_le op_le pe_int (pe_callB call_len_str (by rfl) n_len PySem.boot_len (pa_cons (pv 0) pa_nil)) pe_int)) (pw_or1 (PW.pt (pw_and (pt_cmpR op_eq (pe_callB call_len_str (by rfl) n_len PySem.boot_len (pa_cons (pv 0) pa_nil)) pe_int (nomark _)) (pw_and1 (pt_cmpR op_eq (pe_ix ix_str (pv 0) pe_int (fun _ _ => rfl)) pe_str (nomark _)))))))) (pss_one (ps_ret (pe_un un_neg pe_int))) pss_nil)
      (pss_cons (ps_if (pt_cmpR op_gt (pe_callB call_len_seq (by rfl) n_len PySem.boot_len (pa_cons (pe_comp (js := []) (ys := []) (cl := []) (by exact ⟨rfl, by decide +kernel, by decide +kernel, rfl, rfl, .nil, (fun _ _ h => nomatch h), has_of (List.forall_mem_cons.mpr ⟨(fun z => by rcases z with z | z <;> cases z), List.forall_mem_cons.mpr ⟨(fun z => by rcases z with z | z <;> cases z), (fun _ h => nomatch h)⟩⟩), by decide +kernel⟩) rfl (pi_text (pv 0)) (fun C s H fp => pif_one (pt_cmpR op_notIn_str (pv 0) pe_str rfl)) (fun C s H fp => (pv 0))) pa_nil)) pe_int (nomark _)) (pss_one (ps_ret (pe_un un_neg pe_int))) pss_nil)
      (pss_one (ps_ret (pe_callTy call_int_text (by rfl) n_int PyProof.Rows.boot_int (pa_cons (pv 0) pa_nil)))))), ?_⟩
    have hz : t.length ≤ sizeLine := by rw [sizeLine_eq]; omega
    have kN : (∀ k, k < 100 → t ≠ nS k) → ∀ H', Same H H' → Q (.int (-1)) H' := fun z H' s' => by
      have := k H' s'
      rcases numL_or t with ⟨e, _⟩ | ⟨j, hj, e, _⟩
      · rw [e] at this; exact this
      · exact absurd e (z j hj)
    have hno : (t.length = 0 ∨ 2 < t.length ∨ t.length = 2 ∧ t.cps.toList.head? = some 48) → ∀ k, k < 100 → t ≠ nS k := fun z k hk e => by
      obtain ⟨n1, _, n3⟩ := nS99 k hk
      rw [← e] at n1 n3
      by_cases c : k < 10
      · rw [if_pos c] at n1; omega
      · rw [if_neg c] at n1
        rcases z with z | z | ⟨_, z⟩
        · omega
        · omega
        · exact n3 (by omega) z
    refine ⟨_, rfl, t, rfl, hz, _, _, rfl, rfl, _, rfl, ite2 (fun c1 => ?_) (fun c1 => ?_)⟩
    · have c1' := of_decide_eq_true c1
      refine ⟨_, _, rfl, rfl, _, rfl, ite2 (fun c2 => ?_) (fun c2 => ?_)⟩
      · have c2' : ¬ (t.length : Int) ≤ 2 := fun z => by rw [decide_eq_true z] at c2; cases c2
        exact ⟨_, rfl, kN (hno (by omega)) H (Same.refl _)⟩
      · have c2' : (t.length : Int) ≤ 2 := by
          refine Decidable.byContradiction fun z => c2 ?_
          rw [decide_eq_false z]; rfl
        refine ⟨_, rfl, t, rfl, hz, rfl, _, rfl, ite2 (fun c3 => ?_) (fun c3 => ?_)⟩
        · have c3' := of_decide_eq_true c3
          have c3'' : t.length = 2 := by injection c3' with z; omega
          obtain ⟨c, hc⟩ : ∃ c, t.cps.toList[0]? = some c := ⟨_, List.getElem?_eq_getElem (by rw [len_toList]; omega)⟩
          refine ⟨_, rfl, t, 0, c, rfl, rfl, hz, at_nat (j := 0) hc, rfl, _, rfl, ite2 (fun c4 => ?_) (fun c4 => ?_)⟩
          · have c4' := of_decide_eq_true c4
            have c5 : c = 48 := by
              injection c4' with z
              have := congrArg (fun s : Str => s.cps.toList) z
              have z2 : [c] = [48] := this
              injection z2
            exact ⟨_, rfl, kN (hno (.inr (.inr ⟨c3'', by rw [List.head?_eq_getElem?, hc, c5]⟩))) H (Same.refl _)⟩
          · have h3 : t.length = 2 → t.cps.toList.head? ≠ some 48 := fun _ z => c4 (by
              rw [List.head?_eq_getElem?, hc] at z
              injection z with z
              rw [z]
              exact decide_eq_true rfl)
            refine ⟨_, rfl, t, rfl, asc_all ha, fun D hD => ?_⟩
            refine comp_data (xs := t.cps.toList.map fun c => V.str ⟨#[c]⟩) (ds := t.cps.toList) (fun c => !isDg c) id (fun _ _ _ => True) (by rw [List.length_map]) (small1000 (by rw [List.length_map, len_toList]; omega)) hD (fun _ _ _ _ _ h => h) (fun _ _ _ _ _ _ _ h => h)
              (fun i H' hi s => by rw [List.length_map] at hi; show i < t.cps.size; simpa using hi) (fun i H' x H'' hi s y => by
                obtain ⟨e1, c, e2, rfl⟩ := y
                exact ⟨e1, by rw [List.getElem?_map, Array.getElem?_toList, e2]; rfl⟩) (fun H' s => by show t.cps.size ≤ _; rw [List.length_map]; simp)
              (fun m u c hu2 hc2 H' s' _ R hR hN => ?_) fun H1 ys hys hpy s1 => ?_
            · rw [List.getElem?_map, hc2] at hu2
              have eu : V.str ⟨#[c]⟩ = u := by simpa using hu2
              subst eu
              refine ⟨_, rfl, ⟨#[c]⟩, dgs, rfl, rfl, _, rfl, ?_⟩
              rw [StrLaws.found_one, dgs_mem]
              cases ed : isDg c with
              | true => exact iteF (hN (by rw [ed]; rfl) H' (Same.refl _))
              | false => exact iteT ⟨_, rfl, hR (by rw [ed]; rfl) _ H' (Same.refl _) trivial⟩
            · have hl := PySem.Paired.length hpy
              rw [List.length_map] at hl
              refine ⟨D, ys, rfl, .inl (SqL.of hys), _, _, rfl, rfl, _, rfl, ite2 (fun c => ?_) (fun c => ?_)⟩
              · have c' := of_decide_eq_true c
                refine ⟨_, rfl, kN (fun j hj e => ?_) H1 s1⟩
                have : (t.cps.toList.filter fun c => !isDg c) = [] := by
                  rw [List.filter_eq_nil_iff]
                  intro x hx
                  rw [e] at hx
                  rw [List.all_eq_true.mp (nS99 j hj).2.1 x hx]
                  decide
                rw [this] at hl
                simp at hl
                rw [hl] at c'
                simp at c'
              · have c' : ys.length = 0 := by
                  have : ¬ (0 : Int) < (ys.length : Int) := fun z => c (decide_eq_true z)
                  omega
                rw [c'] at hl
                have hf : (t.cps.toList.filter fun c => !isDg c) = [] := List.length_eq_zero_iff.mp hl.symm
                have hall : ∀ c ∈ t.cps.toList, isDg c = true := fun c hc => by
                  have := List.filter_eq_nil_iff.mp hf c hc
                  simpa using this
                obtain ⟨j, hj, e⟩ := dig_nS (by omega) (by omega) h3 hall
                have hk := k H1 s1
                rw [e, numL_nS hj] at hk
                exact ⟨_, rfl, t, (j : Int), rfl, by rw [e]; exact nS99i j hj, by omega, hk⟩
        · have h3 : t.length = 2 → t.cps.toList.head? ≠ some 48 := fun z => absurd (decide_eq_true (show V.int (t.length : Int) = V.int 2 by rw [z]; rfl)) c3
          refine iteF ?_
          refine ⟨_, rfl, t, rfl, asc_all ha, fun D hD => ?_⟩
          refine comp_data (xs := t.cps.toList.map fun c => V.str ⟨#[c]⟩) (ds := t.cps.toList) (fun c => !isDg c) id (fun _ _ _ => True) (by rw [List.length_map]) (small1000 (by rw [List.length_map, len_toList]; omega)) hD (fun _ _ _ _ _ h => h) (fun _ _ _ _ _ _ _ h => h)
            (fun i H' hi s => by rw [List.length_map] at hi; show i < t.cps.size; simpa using hi) (fun i H' x H'' hi s y => by
              obtain ⟨e1, c, e2, rfl⟩ := y
              exact ⟨e1, by rw [List.getElem?_map, Array.getElem?_toList, e2]; rfl⟩) (fun H' s => by show t.cps.size ≤ _; rw [List.length_map]; simp)
            (fun m u c hu2 hc2 H' s' _ R hR hN => ?_) fun H1 ys hys hpy s1 => ?_
          · rw [List.getElem?_map, hc2] at hu2
            have eu : V.str ⟨#[c]⟩ = u := by simpa using hu2
            subst eu
            refine ⟨_, rfl, ⟨#[c]⟩, dgs, rfl, rfl, _, rfl, ?_⟩
            rw [StrLaws.found_one, dgs_mem]
            cases ed : isDg c with
            | true => exact iteF (hN (by rw [ed]; rfl) H' (Same.refl _))
            | false => exact iteT ⟨_, rfl, hR (by rw [ed]; rfl) _ H' (Same.refl _) trivial⟩
          · have hl := PySem.Paired.length hpy
            rw [List.length_map] at hl
            refine ⟨D, ys, rfl, .inl (SqL.of hys), _, _, rfl, rfl, _, rfl, ite2 (fun c => ?_) (fun c => ?_)⟩
            · have c' := of_decide_eq_true c
              refine ⟨_, rfl, kN (fun j hj e => ?_) H1 s1⟩
              have : (t.cps.toList.filter fun c => !isDg c) = [] := by
                rw [List.filter_eq_nil_iff]
                intro x hx
                rw [e] at hx
                rw [List.all_eq_true.mp (nS99 j hj).2.1 x hx]
                decide
              rw [this] at hl
              simp at hl
              rw [hl] at c'
              simp at c'
            · have c' : ys.length = 0 := by
                have : ¬ (0 : Int) < (ys.length : Int) := fun z => c (decide_eq_true z)
                omega
              rw [c'] at hl
              have hf : (t.cps.toList.filter fun c => !isDg c) = [] := List.length_eq_zero_iff.mp hl.symm
              have hall : ∀ c ∈ t.cps.toList, isDg c = true := fun c hc => by
                have := List.filter_eq_nil_iff.mp hf c hc
                simpa using this
              obtain ⟨j, hj, e⟩ := dig_nS (by omega) (by omega) h3 hall
              have hk := k H1 s1
              rw [e, numL_nS hj] at hk
              exact ⟨_, rfl, t, (j : Int), rfl, by rw [e]; exact nS99i j hj, by omega, hk⟩
    · have c1' : ¬ (1 : Int) ≤ (t.length : Int) := fun z => c1 (decide_eq_true z)
      exact ⟨_, rfl, iteT ⟨_, rfl, kN (hno (by omega)) H (Same.refl _)⟩⟩
end
end My
namespace My
open PySem L2 Pl
theorem prs_of {H : Hp} : ∀ {qs : List V} {ps : List (Nat × Nat)}, Paired (PIv H) qs (ps.map castI) → Paired (PrT H) qs ps
  | _, [], h => by cases h; exact .nil
  | _, p :: ps, h => by
    cases h with
    | cons a r => exact .cons a (prs_of r)
theorem rpInts {K : PySem.W.Frag} {H : Hp} : ∀ ns : List Int, RpAll K H (ns.map V.int) (ns.map PyData.int)
  | [] => .nil
  | _ :: r => .cons (.int _) (rpInts r)
theorem canInts : ∀ ns : List Int, PyData.canLayAll0 (ns.map PyData.int) = true
  | [] => rfl
  | _ :: r => by rw [List.map_cons, PyData.canLayAll0, canInts r]; rfl
theorem depthInts : ∀ ns : List Int, PyData.depthAll (ns.map PyData.int) ≤ 0
  | [] => Nat.zero_le _
  | x :: r => by
    rw [List.map_cons, PyData.depthAll]
    have := depthInts r
    have e : (PyData.int x).depth = 0 := rfl
    omega
theorem atLast {xs : List V} {x : V} (h : xs.getLast? = some x) : atI xs (-1) = some x := by
  rcases List.eq_nil_or_concat xs with e | ⟨l, q, e⟩
  · rw [e] at h; cases h
  · rw [List.concat_eq_append] at e
    subst e
    have ex : q = x := by simpa using h
    subst ex
    unfold atI
    have h1 : ¬ (0 : Int) ≤ -1 := by decide
    simp [ixN, h1]
    rw [if_pos (by omega)]
    have e : (-1 + ((l.length : Int) + 1)).toNat = l.length := by omega
    show (l ++ [q])[(-1 + ((l.length : Int) + 1)).toNat]? = some q
    rw [e]
    simp
theorem paired_last {α β : Type} {F : α → β → Prop} {xs : List α} {ys : List β} {y : β} (h : Paired F xs ys) (e : ys.getLast? = some y) : ∃ x, xs.getLast? = some x ∧ F x y := by
  have hl := PySem.Paired.length h
  rw [List.getLast?_eq_getElem?] at e
  have hlt : xs.length - 1 < xs.length := by
    have := (List.getElem?_eq_some_iff.mp e).1
    omega
  have hx := List.getElem?_eq_getElem hlt
  obtain ⟨y', hy', hf⟩ := paired_get h hx
  rw [hl, e] at hy'
  cases hy'
  exact ⟨_, by rw [List.getLast?_eq_getElem?]; exact hx, hf⟩
def DueInv (HB : Hp) (t u : Str) (ws : List Str) (l lp d : Addr) (i : Nat) (σ : St) (H5 : Hp) : Prop := ∃ (lu : Addr) (qs : List V) (w5 w6 w7 : Option V), σ = [some (.str t), some (.ref l), some (.int (numL u)), some (.ref lp), some (.ref lu), w5, w6, w7] ∧ H5 lp = some (.lst qs) ∧ Paired (PIv H5) qs ((ws.take i).map pairL) ∧ H5 lu = some (.lst ((pts2 ((ws.take i).map pairL)).map V.int)) ∧ lu ≠ lp ∧ (∀ w ∈ ws.take i, ¬ findI w hy < 0) ∧ (∀ p ∈ (ws.take i).map pairL, p.1 < p.2) ∧ ((ws.take i).map pairL).Pairwise (fun a b => lexI b a = false) ∧ Same HB H5 ∧ H5 d = some (.lst (ws.map V.str))
section
variable {P : Program} {w : World} {K : PySem.W.Frag} {mg : Str → Option Value} {base : Heap}
/-! ### _law_due -/
def spLDue : Sp := fun vs H Q _ => ∃ t : Str, vs = [.str t] ∧ asc t ∧ t.length ≤ 10000 ∧ (Txt.split t sp).length ≤ 61 ∧ (∀ n ps, Reads t n ps → ∀ v H', Same H H' → IsP H' v n ps → Q v H') ∧ ((∀ n ps, ¬ Reads t n ps) → ∀ H', Same H H' → Q .non H')
theorem scLDue : FnScope ["text", "words", "points", "pairs", "used", "word", "at", "pair"] ["text"] (defScope sLDue) := ⟨rfl, rfl, rfl, by decide +kernel, rfl, by decide +kernel, by decide +kernel⟩
theorem ok_ldue {f fNu : Addr} {fd fdNu : FuncData} (G : Glb K mg "_law_due" ["text"] sLDue f fd) (GNu : Glb K mg "_law_number" ["word"] sLNumber fNu fdNu) (FNu : FnOk P w K mg base CX0 1 fNu fdNu ["word"] spLNum) (n_len : mg "len" = none) (n_set : mg "set" = none) (n_min : mg "min" = none) (n_max : mg "max" = none) (n_tuple : mg "tuple" = none) : FnOk P w K mg base CX0 2 f fd ["text"] spLDue := by
  refine G.fn.ok scLDue (fun vs H Q E h => ?_) (fun cdv A outer s H vs Q E hr h => ?_)
  · obtain ⟨t, rfl, _⟩ := h; rfl
  · obtain ⟨t, rfl, ha, hlen, hwl, k, kN⟩ := h
    have nd := scLDue.nd
    have hu := hr.units
    have hu1 := Nat.lt_of_le_of_lt (Nat.le_add_right _ 64) hu
    refine ⟨_, (pss_cons (ps_set (i := 1) nd rfl (Or.inl rfl) (pe_bm PySem.F.plainAttrs_str PySem.F.slot_str_split PySem.F.type_str_split mt_split (pv 0) (pa_cons pe_str pa_nil)))
      (pss_cons (ps_if (pt_cmpR op_ne (pe_slice sl_str (pe_ix ix_list (pv 1) pe_int (fun _ _ => rfl)) (po_some (pe_un un_neg pe_int)) po_none) pe_str (nomark _)) (pss_one (ps_ret pe_non)) pss_nil)
      (pss_cons (ps_set (i := 2) nd rfl (Or.inl rfl) (pe_call FNu hr rfl GNu.mgf GNu.fn.kp GNu.bd .nil pass0 (pa_cons (pe_slice sl_str (pe_ix ix_list (pv 1) pe_int (fun _ _ => rfl)) po_none (po_some (pe_un un_neg pe_int))) pa_nil)))
      (pss_cons (ps_set (i := 3) nd rfl (Or.inl rfl) (pe_lst pa_nil))
      (pss_cons (ps_set (i := 4) nd rfl (Or.inl rfl) (pe_lst pa_nil))
      (pss_cons (ps_for PassesOwn.never rfl (pi_list (pe_slice sl_list (pv 1) (po_some pe_int) po_none)) (pg_name (i := 5) nd rfl (Or.inl rfl)) (pss_cons (ps_set (i := 6) nd rfl (Or.inl rfl) (pe_bm PySem.F.plainAttrs_str PySem.F.slot_str_find PySem.F.type_str_find mt_find (pv 5) (pa_cons pe_str pa_nil)))
      (pss_cons (ps_if (pt_cmpR op_lt (pv 6) pe_int (nomark _)) (pss_one (ps_ret pe_non)) pss_nil)
      (pss_cons (ps_set (i := 7) nd rfl (Or.inl rfl) (pe_tup (pa_cons (pe_call FNu hr rfl GNu.mgf GNu.fn.kp GNu.bd .nil pass0 (pa_cons (pe_slice sl_str (pv 5) po_none (po_some (pv 6))) pa_nil)) (pa_cons (pe_call FNu hr rfl GNu.mgf GNu.fn.kp GNu.bd .nil pass0 (pa_cons (pe_slice sl_str (pv 5) (po_some (pe_op op_add (pv 6) pe_int)) po_none) pa_nil)) pa_nil))))
      (pss_cons (ps_set (i := 4) nd rfl (Or.inl rfl) (pe_op op_cat (pv 4) (pe_lst (pa_cons (pe_ix ix_tup (pv 7) pe_int (fun _ _ => rfl)) (pa_cons (pe_ix ix_tup (pv 7) pe_int (fun _ _ => rfl)) pa_nil)))))
      (pss_cons (ps_if (PW.pt (pw_or (pt_cmpR op_ge (pe_ix ix_tup (pv 7) pe_int (fun _ _ => rfl)) (pe_ix ix_tup (pv 7) pe_int (fun _ _ => rfl)) (nomark _)) (pw_or1 (PW.pt (pw_and (pt_cmpR (op_neD hu) (pv 3) (pe_lst pa_nil) (nomark _)) (pw_and1 (pt_cmpR (op_gtP hu1) (pe_ix ix_list (pv 3) (pe_un un_neg pe_int) (fun _ _ => rfl)) (pv 7) (nomark _)))))))) (pss_one (ps_ret pe_non)) pss_nil)
      (pss_one (ps_expr (pe_bm PySem.F.plainAttrs_list PySem.F.slot_list_append PySem.F.type_list_append mt_append (pv 3) (pa_cons (pv 7) pa_nil))))))))))
      (pss_cons (ps_if (PW.pt (pw_or (pt_not (pt_chain op_le op_le pe_int (pv 2) pe_int)) (pw_or1 (pt_cmpR op_lt (pe_callB call_lenS (by rfl) n_len PySem.boot_len (pa_cons (pe_callTy (call_setL rfl) (by rfl) n_set PyProof.Rows.boot_set (pa_cons (pv 4) pa_nil)) pa_nil)) (pe_callB call_len_seq (by rfl) n_len PySem.boot_len (pa_cons (pv 4) pa_nil)) (nomark _))))) (pss_one (ps_ret pe_non)) pss_nil)
      (pss_cons (ps_if (PW.pt (pw_and (pt_cmpR (op_neD hu) (pv 4) (pe_lst pa_nil) (nomark _)) (pw_and1 (PW.pt (pw_or (pt_cmpR op_lt (pe_callB (call_minL rfl) (by rfl) n_min PyProof.Rows.boot_min (pa_cons (pv 4) pa_nil)) pe_int (nomark _)) (pw_or1 (pt_cmpR op_ge (pe_callB (call_maxL rfl) (by rfl) n_max PyProof.Rows.boot_max (pa_cons (pv 4) pa_nil)) (pv 2) (nomark _)))))))) (pss_one (ps_ret pe_non)) pss_nil)
      (pss_one (ps_ret (pe_tup (pa_cons (pv 2) (pa_cons (pe_callTy call_tuple_of (by rfl) n_tuple PyProof.Rows.boot_tuple (pa_cons (pv 3) pa_nil)) pa_nil))))))))))))), ?_⟩
    obtain ⟨w0, ws, hws⟩ : ∃ w0 ws, Txt.split t sp = w0 :: ws := by
      cases e : Txt.split t sp with
      | nil => rw [sp_is] at e; exact absurd e (split_ne t 32)
      | cons a b => exact ⟨a, b, rfl⟩
    have hw : ∀ x ∈ w0 :: ws, x.length ≤ 10000 ∧ asc x := fun x hx => by
      rw [← hws, sp_is] at hx
      obtain ⟨a, b, _⟩ := split_word hx
      exact ⟨by omega, fun y hy => ha y (b y hy)⟩
    have hw0 := hw w0 List.mem_cons_self
    rw [hws] at hwl
    have hwl' : ws.length ≤ 60 := by simpa using hwl
    refine ⟨_, rfl, rfl, t, sp, rfl, rfl, by decide +kernel, by omega, fun l hl => ?_⟩
    rw [hws]
    have s1 : Same H (upd H l (.lst ((w0 :: ws).map V.str))) := same_upd hl
    refine ⟨_, rfl, l, _, _, .str w0, rfl, rfl, SqL.of upd_same, at_nat (j := 0) rfl, _, rfl, (-1 : Int), rfl, w0, rfl, hw0.1, rfl, _, rfl, ite2 (fun c => ?_) (fun c => ?_)⟩
    · refine kN (fun n ps hr => ?_) _ s1
      have e := (last_co w0).mpr ⟨nS n, (reads_there hws hr).1⟩
      have e2 : V.str (StrLaws.sliceText w0 (some (-1)) none) = V.str co := by rw [e]
      have c' : (!decide (V.str (StrLaws.sliceText w0 (some (-1)) none) = V.str co)) = true := c
      rw [decide_eq_true e2] at c'
      cases c'
    obtain ⟨u, hu0⟩ : ∃ u, w0 = u ++ co := (last_co w0).mp (by
      refine Decidable.byContradiction fun z => c ?_
      show (!decide (V.str (StrLaws.sliceText w0 (some (-1)) none) = V.str co)) = true
      rw [decide_eq_false (by intro q; injection q with q; exact z q)]
      rfl)
    have hcut : StrLaws.sliceText w0 none (some (-1)) = u := (ends_co w0).2 u hu0
    have hau : asc u := by have := hw0.2; rw [hu0] at this; exact (asc_app.mp this).1
    have hlu : u.length ≤ 10000 := by have := hw0.1; rw [hu0, len_app] at this; omega
    refine ⟨_, rfl, l, _, _, .str w0, rfl, rfl, SqL.of upd_same, at_nat (j := 0) rfl, _, rfl, (-1 : Int), rfl, w0, rfl, hw0.1, u, by show [V.str (StrLaws.sliceText w0 none (some (-1)))] = [V.str u]; rw [hcut], hau, hlu, fun H2 s2 => ?_⟩
    have sH2 := s1.trans s2
    have hl2 := s2 _ _ (show (upd H l (.lst ((w0 :: ws).map V.str))) l = _ from upd_same)
    refine ⟨by show 0 ≤ sizeLine; exact Nat.zero_le _, fun lp hlp => ⟨by show 0 ≤ sizeLine; exact Nat.zero_le _, fun lu hlu0 => ?_⟩⟩
    have s3 : Same H2 (upd (upd H2 lp (.lst [])) lu (.lst [])) := (same_upd hlp).trans (same_upd hlu0)
    have nlu : lu ≠ lp := by
      rintro rfl
      rw [upd_same] at hlu0
      cases hlu0
    refine ⟨_, rfl, _, rfl, l, _, rfl, SqL.of (s3 _ _ hl2), fun d hd => ?_⟩
    rw [show (w0 :: ws).map V.str = V.str w0 :: ws.map V.str from rfl, cut_tail]
    have nd1 : d ≠ lp := by
      rintro rfl
      rw [upd_ne nlu.symm, upd_same] at hd
      cases hd
    refine ⟨d, rfl, ⟨_, SqL.of upd_same⟩, for_list (xs := ws.map V.str) (DueInv H2 t u ws l lp d) ?_ ?_ ?_ ?_⟩
    · refine ⟨lu, [], none, none, none, rfl, ?_, .nil, ?_, nlu, (fun _ h => by simp at h), (fun _ h => by simp at h), by simp, s3.trans (same_upd hd), upd_same⟩
      · exact (same_upd hd) _ _ (by rw [upd_ne nlu.symm, upd_same])
      · exact (same_upd hd) _ _ upd_same
    · rintro i σ H5 _ ⟨lu', qs, w5, w6, w7, rfl, g1, g2, g3, g4, g5, g6, g7, g8, g9⟩
      exact SqL.of g9
    · rintro i x σ H5 hx ⟨lu', qs, w5, w6, w7, rfl, g1, g2, g3, g4, g5, g6, g7, g8, g9⟩
      obtain ⟨wd, hwd, rfl⟩ : ∃ wd, ws[i]? = some wd ∧ x = V.str wd := by
        rw [List.getElem?_map] at hx
        cases e : ws[i]? with
        | none => rw [e] at hx; cases hx
        | some y => rw [e] at hx; exact ⟨y, rfl, by simpa using hx.symm⟩
      have hmem := List.mem_of_getElem? hwd
      have hwm := hw wd (List.mem_cons_of_mem _ hmem)
      have htk : ws.take (i + 1) = ws.take i ++ [wd] := by rw [List.take_add_one, hwd]; rfl
      have hql := PySem.Paired.length g2
      have hkl : ((ws.take i).map pairL).length ≤ 60 := by rw [List.length_map, List.length_take]; omega
      refine ⟨_, rfl, rfl, wd, hy, rfl, rfl, ?_⟩
      refine ⟨_, rfl, _, _, rfl, rfl, _, rfl, ite2 (fun c2 => ?_) (fun c2 => ?_)⟩
      · exact kN (fun n ps hr => (reads_there hws hr).2.1 wd hmem (of_decide_eq_true c2)) _ (sH2.trans g8)
      have hf : ¬ findI wd hy < 0 := fun z => c2 (decide_eq_true z)
      obtain ⟨q1, q2, q3, q4⟩ := part_asc hf hwm.2
      refine ⟨_, rfl, _, rfl, findI wd hy, rfl, wd, rfl, hwm.1, preH wd, rfl, q1, by omega, fun H6 s6 => ?_⟩
      refine ⟨_, rfl, _, rfl, _, _, rfl, rfl, findI wd hy + 1, rfl, wd, rfl, hwm.1, posH wd, rfl, q2, by omega, fun H7 s7 => ⟨by show 2 ≤ sizeLine; decide, fun tp htp => ?_⟩⟩
      have htp1 : (upd H7 tp (.tup [V.int (numL (preH wd)), V.int (numL (posH wd))])) tp = some (.tup [V.int (numL (preH wd)), V.int (numL (posH wd))]) := upd_same
      have s8 : Same H5 (upd H7 tp (.tup [V.int (numL (preH wd)), V.int (numL (posH wd))])) := (s6.trans s7).trans (same_upd htp)
      refine ⟨_, rfl, _, rfl, tp, _, 0, _, rfl, rfl, SqT.of htp1, rfl, _, rfl, tp, _, 1, _, rfl, rfl, SqT.of htp1, rfl, by show 2 ≤ sizeLine; decide, fun l2 hl2' => ?_⟩
      refine ⟨lu', l2, _, _, rfl, rfl, (same_upd hl2') _ _ (s8 _ _ g3), upd_same, by rw [sizeLine_eq, List.length_map, pts2_len]; show _ + 2 ≤ _; omega, fun l3 hl3 => ?_⟩
      obtain ⟨HX, hHX⟩ : ∃ HX, HX = upd (upd (upd H7 tp (.tup [V.int (numL (preH wd)), V.int (numL (posH wd))])) l2 (.lst [V.int (numL (preH wd)), V.int (numL (posH wd))])) l3 (.lst ((pts2 ((ws.take i).map pairL)).map V.int ++ [V.int (numL (preH wd)), V.int (numL (posH wd))])) := ⟨_, rfl⟩
      have s9 : Same (upd H7 tp (.tup [V.int (numL (preH wd)), V.int (numL (posH wd))])) HX := by rw [hHX]; exact (same_upd hl2').trans (same_upd hl3)
      rw [← hHX]
      have sX : Same H5 HX := s8.trans s9
      have hlp9 : HX lp = some (.lst qs) := sX _ _ g1
      have htpX : HX tp = some (.tup [V.int (numL (preH wd)), V.int (numL (posH wd))]) := s9 _ _ htp1
      have hl3X : HX l3 = some (.lst ((pts2 ((ws.take (i + 1)).map pairL)).map V.int)) := by
        rw [hHX, upd_same, htk, List.map_append, List.map_singleton, pts2_snoc]
        simp
        exact ⟨rfl, rfl⟩
      have nl3 : l3 ≠ lp := by
        rintro rfl
        rw [(same_upd hl2') _ _ (s8 _ _ g1)] at hl3
        cases hl3
      have hpX : Paired (PIv HX) qs ((ws.take i).map pairL) := pis_same sX g2
      have hnx : ∀ w ∈ ws.take (i + 1), ¬ findI w hy < 0 := fun w hw => by
        rw [htk] at hw
        rcases List.mem_append.mp hw with z | z
        · exact g5 w z
        · rw [List.mem_singleton.mp z]; exact hf
      refine ⟨_, rfl, tp, _, 0, _, rfl, rfl, SqT.of htpX, rfl, _, rfl, tp, _, 1, _, rfl, rfl, SqT.of htpX, rfl, _, _, rfl, rfl, _, rfl, ite2 (fun c3 => ?_) (fun c3 => ?_)⟩
      · refine iteT (kN (fun n ps hr => ?_) _ ((sH2.trans g8).trans sX))
        obtain ⟨_, _, r3, _, r5⟩ := reads_there hws hr
        refine r5 (.inr (.inl ⟨pairL wd, by rw [← r3]; exact List.mem_map_of_mem hmem, .inr (.inr (of_decide_eq_true c3))⟩))
      have hlt : (pairL wd).1 < (pairL wd).2 := by
        have : ¬ (pairL wd).2 ≤ (pairL wd).1 := fun z => c3 (decide_eq_true z)
        omega
      have inv : ∀ HY, Same HX HY → (∀ q, ((ws.take i).map pairL).getLast? = some q → lexI (pairL wd) q = false) → DueInv H2 t u ws l lp d (i + 1) [some (.str t), some (.ref l), some (.int (numL u)), some (.ref lp), some (.ref l3), some (.str wd), some (.int (findI wd hy)), some (.ref tp)] (upd HY lp (.lst (qs ++ [.ref tp]))) := fun HY sY hlast => by
        refine ⟨l3, qs ++ [.ref tp], _, _, _, rfl, upd_same, ?_, ?_, nl3, hnx, ?_, ?_, ?_, ?_⟩
        · rw [htk, List.map_append, List.map_singleton]
          have mv : ∀ v p, PIv HX v p → PIv (upd HY lp (.lst (qs ++ [.ref tp]))) v p := fun v p ⟨a, e, hap⟩ => ⟨a, e, by
            rw [upd_ne (ne_of hap hlp9 (by intro z; cases z))]; exact sY _ _ hap⟩
          exact PySem.Paired.snoc (L2.Paired.mapP hpX mv) (mv _ _ ⟨tp, rfl, htpX⟩)
        · rw [upd_ne nl3]; exact sY _ _ hl3X
        · intro p hp
          rw [htk, List.map_append] at hp
          rcases List.mem_append.mp hp with z | z
          · exact g6 p z
          · rw [List.mem_singleton.mp z]; exact hlt
        · rw [htk, List.map_append, List.map_singleton]
          exact sorted_snoc g7 hlast
        · exact same_upd2 ((g8.trans sX).trans sY) hlp
        · rw [upd_ne nd1]; exact sY _ _ (sX _ _ g9)
      have hqs : qs.length ≤ 60 := by rw [hql]; exact hkl
      refine ⟨_, rfl, by show 0 ≤ sizeLine; exact Nat.zero_le _, fun e he => ?_⟩
      have sE : Same HX (upd HX e (.lst [])) := same_upd he
      refine ⟨.list (((ws.take i).map pairL).map encI), .list [], .lst (SqL.of (sE _ _ hlp9)) (rpI (pis_same sE hpX)), .lst (SqL.of upd_same) .nil, by rw [PyData.canLay0]; exact canI _, rfl, by rw [PyData.depth]; have := depthI ((ws.take i).map pairL); omega, _, rfl, ?_⟩
      cases ek : ((ws.take i).map pairL).getLast? with
      | none =>
        have e0 : (ws.take i).map pairL = [] := List.getLast?_eq_none_iff.mp ek
        have hne : (if true = true then !PyData.eqv (.list (((ws.take i).map pairL).map encI)) (.list []) else PyData.eqv (.list (((ws.take i).map pairL).map encI)) (.list [])) = false := by rw [e0]; rfl
        rw [hne]
        refine iteF (iteF ⟨_, rfl, .inl ⟨rfl, _, SqL.of (sE _ _ hlp9)⟩, _, rfl, lp, _, _, rfl, rfl, sE _ _ hlp9, small1000 (by omega), inv _ sE ?_⟩)
        intro q hq; rw [ek] at hq; cases hq
      | some q =>
        obtain ⟨xq, hxq, aq, rfl, haq⟩ := paired_last hpX ek
        have hne : (if true = true then !PyData.eqv (.list (((ws.take i).map pairL).map encI)) (.list []) else PyData.eqv (.list (((ws.take i).map pairL).map encI)) (.list [])) = true := by
          cases e0 : (ws.take i).map pairL with
          | nil => rw [e0] at ek; cases ek
          | cons a b => rfl
        rw [hne]
        refine iteT ⟨_, rfl, _, rfl, lp, qs, -1, .ref aq, rfl, rfl, SqL.of (sE _ _ hlp9), atLast hxq, _, rfl, aq, tp, q, pairL wd, rfl, rfl, SqT.of (sE _ _ haq), SqT.of (sE _ _ htpX), _, rfl, ite2 (fun c4 => ?_) (fun c4 => ?_)⟩
        · refine kN (fun n ps hr => ?_) _ (((sH2.trans g8).trans sX).trans sE)
          obtain ⟨_, _, r3, _, r5⟩ := reads_there hws hr
          refine r5 (.inr (.inr (.inr fun hp => ?_)))
          rw [← r3, ← List.take_append_drop (i + 1) ws, List.map_append, htk, List.map_append] at hp
          have := sorted_last (List.pairwise_append.mp hp).1 q ek
          rw [c4] at this
          cases this
        · refine ⟨_, rfl, .inl ⟨rfl, _, SqL.of (sE _ _ hlp9)⟩, _, rfl, lp, _, _, rfl, rfl, sE _ _ hlp9, small1000 (by omega), inv _ sE ?_⟩
          intro q' hq'
          rw [ek] at hq'
          cases hq'
          cases e : lexI (pairL wd) q with
          | false => rfl
          | true => exact absurd e c4
    · rintro σ H5 ⟨lu', qs, w5, w6, w7, rfl, g1, g2, g3, g4, g5, g6, g7, g8, g9⟩
      rw [List.length_map, List.take_length] at g2 g3 g5 g6 g7
      have sH5 := sH2.trans g8
      have hpl : (pts2 (ws.map pairL)).length ≤ 120 := by rw [pts2_len, List.length_map]; omega
      have hsb : (120 : Nat) + 1 < scanBound := by decide
      have hunum : ∀ n ps, Reads t n ps → numL u = n ∧ n ≤ 60 := fun n ps hr => by
        obtain ⟨r1, _, _, r4, _⟩ := reads_there hws hr
        have : u = nS n := app_co_inj (hu0.symm.trans r1)
        exact ⟨by rw [this]; exact numL_nS (by omega), r4⟩
      refine ⟨_, rfl, _, _, rfl, rfl, _, rfl, ite2 (fun c1 => ?_) (fun c1 => ?_)⟩
      rotate_left
      · refine ⟨_, rfl, iteT (iteT (kN (fun n ps hr => c1 (decide_eq_true ?_)) _ sH5))⟩
        have := hunum n ps hr
        show (0 : Int) ≤ numL u
        omega
      have c1' : (0 : Int) ≤ numL u := of_decide_eq_true c1
      refine ⟨_, _, rfl, rfl, _, rfl, ite2 (fun c2 => ?_) (fun c2 => ?_)⟩
      · refine iteT (kN (fun n ps hr => ?_) _ sH5)
        have := hunum n ps hr
        rw [show decide (numL u ≤ 60) = true from decide_eq_true (by omega)] at c2
        cases c2
      have c2' : numL u ≤ 60 := by
        refine Decidable.byContradiction fun z => c2 ?_
        rw [show decide (numL u ≤ 60) = false from decide_eq_false z]; rfl
      refine ⟨_, rfl, lu', _, rfl, SqL.of g3, by omega, fun ds SS hds => ?_⟩
      have s6 : Same H5 (upd H5 ds (.set SS (metN (pts2 (ws.map pairL))))) := same_upd hds
      refine ⟨ds, SS, _, rfl, upd_same, _, rfl, lu', _, rfl, .inl (SqL.of (s6 _ _ g3)), _, _, rfl, rfl, _, rfl, ite2 (fun c3 => ?_) (fun c3 => ?_)⟩
      · have c3' := of_decide_eq_true c3
        rw [List.length_map] at c3'
        refine kN (fun n ps hr => ?_) _ (sH5.trans s6)
        obtain ⟨_, _, r3, _, r5⟩ := reads_there hws hr
        refine r5 (.inr (.inr (.inl ?_)))
        rw [← r3]
        exact (metN_lt _).mp (by omega)
      have hnd : (pts2 (ws.map pairL)).Nodup := by
        refine Decidable.byContradiction fun z => c3 ?_
        have := (metN_lt _).mpr z
        rw [List.length_map]
        exact decide_eq_true (by omega)
      refine ⟨_, rfl, by show 0 ≤ sizeLine; exact Nat.zero_le _, fun e he => ?_⟩
      have s7 : Same H5 (upd (upd H5 ds (.set SS (metN (pts2 (ws.map pairL))))) e (.lst [])) := s6.trans (same_upd he)
      refine ⟨.list ((pts2 (ws.map pairL)).map PyData.int), .list [], .lst (SqL.of (s7 _ _ g3)) (rpInts _), .lst (SqL.of upd_same) .nil, by rw [PyData.canLay0]; exact canInts _, rfl, by rw [PyData.depth]; have := depthInts (pts2 (ws.map pairL)); omega, _, rfl, ?_⟩
      have fin : (∀ x ∈ pts2 (ws.map pairL), 0 ≤ x ∧ x < numL u) → ∀ H', Same H5 H' → ∀ tq, H' tq = none → ∀ tt, (upd H' tq (.tup qs)) tt = none → Q (.ref tt) (upd (upd H' tq (.tup qs)) tt (.tup [.int (numL u), .ref tq])) := fun hr H' s' tq htq tt htt => by
        obtain ⟨n, ps, hR, en, ep⟩ := reads_back hws hu0 g5 g6 g7 c1' c2' hnd hr
        have nt : tt ≠ tq := by
          rintro rfl
          rw [upd_same] at htt
          cases htt
        have sT : Same H' (upd (upd H' tq (.tup qs)) tt (.tup [.int (numL u), .ref tq])) := (same_upd htq).trans (same_upd htt)
        refine k n ps hR _ _ ((sH5.trans s').trans sT) ⟨tt, tq, qs, rfl, by rw [upd_same, en], by rw [upd_ne nt.symm, upd_same], ?_⟩
        rw [ep] at g2
        exact prs_of (pis_same (s'.trans sT) g2)
      by_cases ek : pts2 (ws.map pairL) = []
      · have heq : (if true = true then !PyData.eqv (.list ((pts2 (ws.map pairL)).map PyData.int)) (.list []) else PyData.eqv (.list ((pts2 (ws.map pairL)).map PyData.int)) (.list [])) = false := by rw [ek]; rfl
        rw [heq]
        refine iteF (iteF ?_)
        refine ⟨_, rfl, _, rfl, lp, qs, rfl, .inl ⟨SqL.of (s7 _ _ g1), fun tq htq => ⟨by show 2 ≤ sizeLine; decide, fun tt htt => ?_⟩⟩⟩
        exact fin (fun x hx => by rw [ek] at hx; cases hx) _ s7 tq htq tt htt
      · have heq : (if true = true then !PyData.eqv (.list ((pts2 (ws.map pairL)).map PyData.int)) (.list []) else PyData.eqv (.list ((pts2 (ws.map pairL)).map PyData.int)) (.list [])) = true := by
          cases e0 : pts2 (ws.map pairL) with
          | nil => exact absurd e0 ek
          | cons a b => rfl
        rw [heq]
        have bad : ∀ n ps, Reads t n ps → ∀ x ∈ pts2 (ws.map pairL), 0 ≤ x ∧ x < numL u := fun n ps hr x hx => by
          obtain ⟨_, _, r3, _, r5⟩ := reads_there hws hr
          have hn := hunum n ps hr
          unfold pts2 at hx
          obtain ⟨p, hp, hx⟩ := List.mem_flatMap.mp hx
          have hlt := g6 p hp
          have hw : ¬ wrongP n p := fun z => r5 (.inr (.inl ⟨p, by rw [← r3]; exact hp, z⟩))
          unfold wrongP at hw
          have : x = p.1 ∨ x = p.2 := by simpa using hx
          rw [hn.1]
          omega
        refine iteT ⟨_, rfl, lu', _, rfl, SqL.of (s7 _ _ g3), ek, fun M hM hle => ⟨_, _, rfl, rfl, _, rfl, ite2 (fun c4 => ?_) (fun c4 => ?_)⟩⟩
        · refine iteT (kN (fun n ps hr => ?_) _ (sH5.trans s7))
          have := bad n ps hr M hM
          have c4' := of_decide_eq_true c4
          omega
        refine ⟨_, rfl, lu', _, rfl, SqL.of (s7 _ _ g3), ek, fun M2 hM2 hge => ⟨_, rfl, _, _, rfl, rfl, _, rfl, ite2 (fun c5 => ?_) (fun c5 => ?_)⟩⟩
        · refine kN (fun n ps hr => ?_) _ (sH5.trans s7)
          have := bad n ps hr M2 hM2
          have c5' := of_decide_eq_true c5
          omega
        refine ⟨_, rfl, _, rfl, lp, qs, rfl, .inl ⟨SqL.of (s7 _ _ g1), fun tq htq => ⟨by show 2 ≤ sizeLine; decide, fun tt htt => ?_⟩⟩⟩
        refine fin (fun x hx => ?_) _ s7 tq htq tt htt
        have h1 := hle x hx
        have h2 := hge x hx
        have c4' : ¬ M < 0 := fun z => c4 (decide_eq_true z)
        have c5' : ¬ numL u ≤ M2 := fun z => c5 (decide_eq_true z)
        omega
end
end My
namespace My
open PySem L2 Pl
def isStrE : Expr → Bool
  | .Constant (.str _) _ _ => true
  | _ => false
def strV : Expr → V
  | .Constant (.str x) _ _ => .str x
  | _ => .non
theorem pa_strs {X : Cx} : ∀ {es : List Expr}, es.all isStrE = true → PA X es (fun _ H Q => Q (es.map strV) H)
  | [], _ => pa_nil
  | e :: es, h => by
    rw [List.all_cons, Bool.and_eq_true] at h
    have ih := pa_strs (X := X) h.2
    have h1 := h.1
    unfold isStrE at h1
    split at h1
    · exact pa_cons pe_str ih
    · cases h1
def okO : V → Bool
  | .str x => x.cps.toList.all (fun c => decide (c < 128)) && decide (x.length ≤ 20) && decide (x.cps.toList.count 32 ≤ 5)
  | _ => false
theorem okO_fine {t : Str} {v : V} (h : okO v = true) : ∃ x, v = .str x ∧ Fine t x := by
  cases v with
  | str x =>
    unfold okO at h
    rw [Bool.and_eq_true, Bool.and_eq_true, decide_eq_true_eq, decide_eq_true_eq, List.all_eq_true] at h
    exact ⟨x, rfl, fun c hc => of_decide_eq_true (h.1.1 c hc), by omega, by omega⟩
  | _ => cases h
theorem at_mod {xs : List V} {c : Int} {n : Nat} (hn : xs.length = n) (h0 : 0 < n) : ∃ v, atI xs (c % (n : Int)) = some v ∧ v ∈ xs := by
  obtain ⟨q, hq, hlt⟩ : ∃ q : Nat, c % (n : Int) = (q : Int) ∧ q < n := ⟨(c % (n : Int)).toNat, by have := Int.emod_nonneg c (show (n : Int) ≠ 0 by omega); omega, by have := Int.emod_lt_of_pos c (show (0 : Int) < n by omega); have := Int.emod_nonneg c (show (n : Int) ≠ 0 by omega); omega⟩
  rw [hq]
  exact ⟨_, at_nat (List.getElem?_eq_getElem (by omega)), List.getElem_mem _⟩
theorem odd_ix {K : PySem.W.Frag} {H : Hp} {l : Addr} {xs : List V} {c : Int} {Q : VK} (h : H l = some (.lst xs)) (hall : xs.all okO = true) (hn : 0 < xs.length) (k : ∀ v, okO v = true → Q v H) : rIxL K (.ref l) (.int (c % (xs.length : Int))) H Q := by
  obtain ⟨v, hv, hm⟩ := at_mod (xs := xs) (c := c) rfl hn
  exact ⟨l, xs, _, v, rfl, rfl, SqL.of h, hv, k v (List.all_eq_true.mp hall v hm)⟩
section
variable {P : Program} {w : World} {K : PySem.W.Frag} {mg : Str → Option Value} {base : Heap}
/-! ### _law_odd -/
def spOdd : Sp := fun vs H Q _ => ∃ c : Int, vs = [.int c] ∧ ∀ v H', okO v = true → Same H H' → Q v H'
theorem scOdd : FnScope ["cell", "some"] ["cell"] (defScope sLOdd) := ⟨rfl, rfl, rfl, by decide +kernel, rfl, by decide +kernel, by decide +kernel⟩
/-- the shape of its body -/
theorem odd_shape : ∃ (es1 es2 es3 es4 : List Expr) (a1 a2 a3 b1 b2 b3 b4 b5 c1 c2 c3 c4 c5 d1 d2 d3 d4 d5 r1 r2 r3 r4 r5 r6 r7 r8 : Pos),
    defBody sLOdd = [.Assign [.Name "some" a1] (.List es1 a2) a3, .Assign [.Name "some" b1] (.BinOp (.Name "some" b2) .Add (.List es2 b3) b4) b5, .Assign [.Name "some" c1] (.BinOp (.Name "some" c2) .Add (.List es3 c3) c4) c5, .Assign [.Name "some" d1] (.BinOp (.Name "some" d2) .Add (.List es4 d3) d4) d5, .Return (some (.Subscript (.Name "some" r1) (.BinOp (.Name "cell" r2) .Mod (.Call (.Name "len" r3) [.Name "some" r4] [] r5) r6) r7)) r8]
      ∧ es1.all isStrE = true ∧ es2.all isStrE = true ∧ es3.all isStrE = true ∧ es4.all isStrE = true ∧ es1.length = 12 ∧ es2.length = 8 ∧ es3.length = 7 ∧ es4.length = 5 ∧ (es1.map strV ++ es2.map strV ++ es3.map strV ++ es4.map strV).all okO = true := by
  refine ⟨_, _, _, _, _, _, _, _, _, _, _, _, _, _, _, _, _, _, _, _, _, _, _, _, _, _, _, _, _, _, rfl, ?_, ?_, ?_, ?_, rfl, rfl, rfl, rfl, ?_⟩ <;> decide +kernel
theorem ok_odd {f : Addr} {fd : FuncData} (G : Glb K mg "_law_odd" ["cell"] sLOdd f fd) (n_len : mg "len" = none) : FnOk P w K mg base CX0 1 f fd ["cell"] spOdd := by
  refine G.fn.ok scOdd (fun vs H Q E h => ?_) (fun cdv A outer s H vs Q E hr h => ?_)
  · obtain ⟨c, rfl, _⟩ := h; rfl
  · obtain ⟨c, rfl, k⟩ := h
    have nd := scOdd.nd
    show ∃ t, PSs _ (defBody sLOdd) t ∧ _
    obtain ⟨es1, es2, es3, es4, a1, a2, a3, b1, b2, b3, b4, b5, c1, c2, c3, c4, c5, d1, d2, d3, d4, d5, r1, r2, r3, r4, r5, r6, r7, r8, hb, q1, q2, q3, q4, n1, n2, n3, n4, hall⟩ := odd_shape
    rw [hb]
    refine ⟨_, (pss_cons (ps_set (i := 1) nd rfl (Or.inl rfl) (pe_lst (pa_strs q1)))
      (pss_cons (ps_set (i := 1) nd rfl (Or.inl rfl) (pe_op op_cat (pv 1) (pe_lst (pa_strs q2))))
      (pss_cons (ps_set (i := 1) nd rfl (Or.inl rfl) (pe_op op_cat (pv 1) (pe_lst (pa_strs q3))))
      (pss_cons (ps_set (i := 1) nd rfl (Or.inl rfl) (pe_op op_cat (pv 1) (pe_lst (pa_strs q4))))
      (pss_one (ps_ret (pe_ix ix_list (pv 1) (pe_op op_mod (pv 0) (pe_callB call_len_seq (by rfl) n_len PySem.boot_len (pa_cons (pv 1) pa_nil))) (fun _ _ => rfl)))))))), ?_⟩
    have sz : ∀ n : Nat, n ≤ 32 → n ≤ sizeLine := fun n h => by rw [sizeLine_eq]; omega
    refine ⟨sz _ (by rw [List.length_map]; omega), fun l1 hl1 => ?_⟩
    refine ⟨_, rfl, sz _ (by rw [List.length_map]; omega), fun l2 hl2 => ⟨l1, l2, _, _, rfl, rfl, (same_upd hl2) _ _ upd_same, upd_same, sz _ (by simp only [List.length_map]; omega), fun l3 hl3 => ?_⟩⟩
    refine ⟨_, rfl, sz _ (by rw [List.length_map]; omega), fun l4 hl4 => ⟨l3, l4, _, _, rfl, rfl, (same_upd hl4) _ _ upd_same, upd_same, sz _ (by simp only [List.length_map, List.length_append]; omega), fun l5 hl5 => ?_⟩⟩
    refine ⟨_, rfl, sz _ (by rw [List.length_map]; omega), fun l6 hl6 => ⟨l5, l6, _, _, rfl, rfl, (same_upd hl6) _ _ upd_same, upd_same, sz _ (by simp only [List.length_map, List.length_append]; omega), fun l7 hl7 => ?_⟩⟩
    have hn : 0 < (es1.map strV ++ es2.map strV ++ es3.map strV ++ es4.map strV).length := by simp only [List.length_map, List.length_append]; omega
    refine ⟨_, rfl, _, rfl, _, rfl, l7, _, rfl, .inl (SqL.of upd_same), _, _, rfl, rfl, by show (0 : Int) < ((es1.map strV ++ es2.map strV ++ es3.map strV ++ es4.map strV).length : Int); omega, ?_⟩
    exact odd_ix upd_same hall hn fun v hv => k v _ hv (((((((same_upd hl1).trans (same_upd hl2)).trans (same_upd hl3)).trans (same_upd hl4)).trans (same_upd hl5)).trans (same_upd hl6)).trans (same_upd hl7))
/-! ### _law_spoiled -/
def signs : Str := "0123456789 -:,+_ "
theorem signs_ok : ∀ c ∈ signs.cps.toList, c < 128 := by decide +kernel
theorem signs_len : signs.cps.toList.length = 17 := by decide +kernel
def spSpoil : Sp := fun vs H Q _ => ∃ (t : Str) (c : Int), vs = [.str t, .int c] ∧ asc t ∧ t.length ≤ 400 ∧ ∀ x H', Fine t x → Same H H' → Q (.str x) H'
theorem scSpoil : FnScope ["text", "cell", "at", "sign", "way"] ["text", "cell"] (defScope sSpoiled) := ⟨rfl, rfl, rfl, by decide +kernel, rfl, by decide +kernel, by decide +kernel⟩
theorem ok_spoil {f fOd : Addr} {fd fdOd : FuncData} (G : Glb K mg "_law_spoiled" ["text", "cell"] sSpoiled f fd) (GOd : Glb K mg "_law_odd" ["cell"] sLOdd fOd fdOd) (FOd : FnOk P w K mg base CX0 1 fOd fdOd ["cell"] spOdd) (n_len : mg "len" = none) : FnOk P w K mg base CX0 2 f fd ["text", "cell"] spSpoil := by
  refine G.fn.ok scSpoil (fun vs H Q E h => ?_) (fun cdv A outer s H vs Q E hr h => ?_)
  · obtain ⟨t, c, rfl, _⟩ := h; rfl
  · obtain ⟨t, c, rfl, ha, hlen, k⟩ := h
    have nd := scSpoil.nd
    refine ⟨_, (pss_cons (ps_set (i := 2) nd rfl (Or.inl rfl) (pe_op op_mod (pe_op op_fdiv (pv 1) pe_int) (pe_op op_add (pe_callB call_len_str (by rfl) n_len PySem.boot_len (pa_cons (pv 0) pa_nil)) pe_int)))
      (pss_cons (ps_set (i := 3) nd rfl (Or.inl rfl) (pe_ix ix_str pe_str (pe_op op_mod (pe_op op_fdiv (pv 1) pe_int) pe_int) (fun _ _ => rfl)))
      (pss_cons (ps_set (i := 4) nd rfl (Or.inl rfl) (pe_op op_mod (pv 1) pe_int))
      (pss_cons (ps_if (pt_cmpR op_lt (pv 4) pe_int (nomark _)) (pss_one (ps_ret (pe_op op_add_str (pe_op op_add_str (pe_slice sl_str (pv 0) po_none (po_some (pv 2))) (pv 3)) (pe_slice sl_str (pv 0) (po_some (pv 2)) po_none)))) pss_nil)
      (pss_cons (ps_if (pt_cmpR op_eq (pv 4) pe_int (nomark _)) (pss_one (ps_ret (pe_op op_add_str (pe_op op_add_str (pe_slice sl_str (pv 0) po_none (po_some (pv 2))) (pv 3)) (pe_slice sl_str (pv 0) (po_some (pe_op op_add (pv 2) pe_int)) po_none)))) pss_nil)
      (pss_cons (ps_if (pt_cmpR op_eq (pv 4) pe_int (nomark _)) (pss_one (ps_ret (pe_op op_add_str (pe_slice sl_str (pv 0) po_none (po_some (pv 2))) (pe_slice sl_str (pv 0) (po_some (pe_op op_add (pv 2) pe_int)) po_none)))) pss_nil)
      (pss_one (ps_ret (pe_call FOd hr rfl GOd.mgf GOd.fn.kp GOd.bd .nil pass0 (pa_cons (pe_op op_fdiv (pv 1) pe_int) pa_nil)))))))))), ?_⟩
    have hz : t.length ≤ sizeLine := by rw [sizeLine_eq]; omega
    refine ⟨_, rfl, _, _, rfl, rfl, ⟨by decide, by decide⟩, _, rfl, t, rfl, hz, _, _, rfl, rfl, _, _, rfl, rfl, by show (0 : Int) < (t.length : Int) + 1; omega, ?_⟩
    have ha1 : 0 ≤ (c / 5 % ((t.length : Int) + 1)) ∧ (c / 5 % ((t.length : Int) + 1)) ≤ (t.length : Int) := ⟨Int.emod_nonneg _ (by omega), by have := Int.emod_lt_of_pos (c / 5) (show (0 : Int) < (t.length : Int) + 1 by omega); omega⟩
    obtain ⟨q, hq, hlt⟩ : ∃ q : Nat, c / 2000 % 17 = (q : Int) ∧ q < 17 := ⟨(c / 2000 % 17).toNat, by omega, by omega⟩
    obtain ⟨g, hg, hg2⟩ : ∃ g, signs.cps.toList[q]? = some g ∧ g < 128 := ⟨_, List.getElem?_eq_getElem (by rw [signs_len]; exact hlt), signs_ok _ (List.getElem_mem _)⟩
    refine ⟨_, rfl, _, _, rfl, rfl, ⟨by decide, by decide⟩, _, _, rfl, rfl, by show (0 : Int) < 17; decide, signs, c / 2000 % 17, g, rfl, rfl, by decide +kernel, by rw [hq]; exact at_nat hg, ?_⟩
    refine ⟨_, rfl, _, _, rfl, rfl, by show (0 : Int) < 5; decide, ?_⟩
    have e1 : StrLaws.sliceText t none (some (c / 5 % ((t.length : Int) + 1))) = ⟨(t.cps.toList.take (c / 5 % ((t.length : Int) + 1)).toNat).toArray⟩ := slice_take t ha1.1 ha1.2
    have e2 : StrLaws.sliceText t (some (c / 5 % ((t.length : Int) + 1))) none = ⟨(t.cps.toList.drop (c / 5 % ((t.length : Int) + 1)).toNat).toArray⟩ := slice_drop t ha1.1
    have e3 : StrLaws.sliceText t (some ((c / 5 % ((t.length : Int) + 1)) + 1)) none = ⟨(t.cps.toList.drop ((c / 5 % ((t.length : Int) + 1)) + 1).toNat).toArray⟩ := slice_drop t (by omega)
    have h2 : Fine t (StrLaws.sliceText t none (some (c / 5 % ((t.length : Int) + 1))) ++ ⟨#[g]⟩ ++ StrLaws.sliceText t (some (c / 5 % ((t.length : Int) + 1))) none) := by rw [e1, e2]; exact fine_three (Nat.le_refl _) ha hg2
    have h3 : Fine t (StrLaws.sliceText t none (some (c / 5 % ((t.length : Int) + 1))) ++ ⟨#[g]⟩ ++ StrLaws.sliceText t (some ((c / 5 % ((t.length : Int) + 1)) + 1)) none) := by rw [e1, e3]; exact fine_three (by omega) ha hg2
    have h4 : Fine t (StrLaws.sliceText t none (some (c / 5 % ((t.length : Int) + 1))) ++ StrLaws.sliceText t (some ((c / 5 % ((t.length : Int) + 1)) + 1)) none) := by rw [e1, e3]; exact fine_two (by omega) ha
    have l2 := h2.len
    have l3 := h3.len
    have l4 := h4.len
    rw [len_app] at l2 l3 l4
    refine ⟨_, rfl, _, _, rfl, rfl, _, rfl, ite2 (fun _ => ?_) (fun _ => ?_)⟩
    · refine ⟨_, rfl, _, rfl, (c / 5 % ((t.length : Int) + 1)), rfl, t, rfl, by omega, _, rfl, StrLaws.sliceText t none (some (c / 5 % ((t.length : Int) + 1))), ⟨#[g]⟩, rfl, rfl, by rw [sizeLine_eq]; rw [len_app] at l2; omega, ?_⟩
      exact ⟨_, rfl, _, rfl, (c / 5 % ((t.length : Int) + 1)), rfl, t, rfl, by omega, StrLaws.sliceText t none (some (c / 5 % ((t.length : Int) + 1))) ++ ⟨#[g]⟩, StrLaws.sliceText t (some (c / 5 % ((t.length : Int) + 1))) none, rfl, rfl, by rw [sizeLine_eq]; omega, k _ _ h2 (Same.refl _)⟩
    refine ⟨_, rfl, rfl, _, rfl, ite2 (fun _ => ?_) (fun _ => ?_)⟩
    · refine ⟨_, rfl, _, rfl, (c / 5 % ((t.length : Int) + 1)), rfl, t, rfl, by omega, _, rfl, StrLaws.sliceText t none (some (c / 5 % ((t.length : Int) + 1))), ⟨#[g]⟩, rfl, rfl, by rw [sizeLine_eq]; rw [len_app] at l2; omega, ?_⟩
      exact ⟨_, rfl, _, rfl, _, _, rfl, rfl, (c / 5 % ((t.length : Int) + 1)) + 1, rfl, t, rfl, by omega, StrLaws.sliceText t none (some (c / 5 % ((t.length : Int) + 1))) ++ ⟨#[g]⟩, StrLaws.sliceText t (some ((c / 5 % ((t.length : Int) + 1)) + 1)) none, rfl, rfl, by rw [sizeLine_eq]; omega, k _ _ h3 (Same.refl _)⟩
    refine ⟨_, rfl, rfl, _, rfl, ite2 (fun _ => ?_) (fun _ => ?_)⟩
    · refine ⟨_, rfl, _, rfl, (c / 5 % ((t.length : Int) + 1)), rfl, t, rfl, by omega, ?_⟩
      exact ⟨_, rfl, _, rfl, _, _, rfl, rfl, (c / 5 % ((t.length : Int) + 1)) + 1, rfl, t, rfl, by omega, StrLaws.sliceText t none (some (c / 5 % ((t.length : Int) + 1))), StrLaws.sliceText t (some ((c / 5 % ((t.length : Int) + 1)) + 1)) none, rfl, rfl, by rw [sizeLine_eq]; omega, k _ _ h4 (Same.refl _)⟩
    · refine ⟨_, rfl, _, _, rfl, rfl, ⟨by decide, by decide⟩, c / 5, rfl, fun v H' hv s' => ?_⟩
      obtain ⟨x, rfl, hx⟩ := okO_fine (t := t) hv
      exact k x H' hx s'
end
end My
namespace My
open PySem L2 Pl
abbrev sixV : List V := [.bl true, .bl false, .bl false, .bl false, .bl false, .bl true]
section
variable {P : Program} {w : World} {K : PySem.W.Frag} {mg : Str → Option Value} {base : Heap}
/-! ### _law_told -/
def spTold : Sp := fun vs H Q _ => ∃ t : Str, vs = [.str t] ∧ t.length ≤ 10000 ∧ okT t ∧ (Txt.split t sp).length ≤ 61 ∧ (∀ n ps, Reads t n ps → ∀ v H', Same H H' → IsP H' v n ps → Q v H') ∧ ((∀ n ps, ¬ Reads t n ps) → ∀ l H', Same H H' → H' l = some (.lst sixV) → Q (.ref l) H')
theorem scTold : FnScope ["text", "found", "e"] ["text"] (defScope sLTold) := ⟨rfl, rfl, rfl, by decide +kernel, rfl, by decide +kernel, by decide +kernel⟩
theorem ok_told {f fRd CPE C1 C2 C3 C4 C5 : Addr} {fd fdRd : FuncData} (G : Glb K mg "_law_told" ["text"] sLTold f fd) (GRd : Glb K mg "read" ["text"] sRead fRd fdRd) (FRd : FnOk P w K mg base (CX1 P w) 4 fRd fdRd ["text"] (spRead C1)) (X : ExcG K mg "BadNote" "NoPairing" "NoWalk" "NoNumber" "TooMany" CPE C1 C2 C3 C4 C5) (n_isi : mg "isinstance" = none) (n_ve : mg "ValueError" = none) : FnOk P w K mg base CX0 5 f fd ["text"] spTold := by
  refine G.fn.ok scTold (fun vs H Q E h => ?_) (fun cdv A outer s H vs Q E hr h => ?_)
  · obtain ⟨t, rfl, _⟩ := h; rfl
  · obtain ⟨t, rfl, hlen, hok, hsl, k, kE⟩ := h
    have nd := scTold.nd
    have hPE := X.pe
    have m1 := X.m1
    have m2 := X.m2
    have m3 := X.m3
    have m4 := X.m4
    have m5 := X.m5
    refine ⟨_, (pss_cons (ps_set (i := 1) nd rfl (Or.inl rfl) pe_non)
      (pss_cons (ps_try (i := 2) rfl rfl nd rfl rfl (pxs_set (i := 1) nd rfl (Or.inl rfl) (px_call FRd hr rfl GRd.mgf GRd.fn.kp GRd.bd rfl (fun xe => (pa_cons (pv 0) pa_nil)))) (by rfl) hPE (fun x => (pss_cons (ps_set (i := 1) nd rfl (Or.inl rfl) (pe_lst (pa_cons (pe_callB (r := rIsiE K) call_isiE (by rfl) n_isi PyProof.Rows.boot_isinstance (pa_cons (pv 2) (pa_cons (pe_glob (v := .ref C1) (by rfl) m1 rfl) pa_nil))) (pa_cons (pe_callB (r := rIsiE K) call_isiE (by rfl) n_isi PyProof.Rows.boot_isinstance (pa_cons (pv 2) (pa_cons (pe_glob (v := .ref C2) (by rfl) m2 rfl) pa_nil))) (pa_cons (pe_callB (r := rIsiE K) call_isiE (by rfl) n_isi PyProof.Rows.boot_isinstance (pa_cons (pv 2) (pa_cons (pe_glob (v := .ref C3) (by rfl) m3 rfl) pa_nil))) (pa_cons (pe_callB (r := rIsiE K) call_isiE (by rfl) n_isi PyProof.Rows.boot_isinstance (pa_cons (pv 2) (pa_cons (pe_glob (v := .ref C4) (by rfl) m4 rfl) pa_nil))) pa_nil))))))
      (pss_one (ps_set (i := 1) nd rfl (Or.inl rfl) (pe_op op_cat (pv 1) (pe_lst (pa_cons (pe_callB (r := rIsiE K) call_isiE (by rfl) n_isi PyProof.Rows.boot_isinstance (pa_cons (pv 2) (pa_cons (pe_glob (v := .ref C5) (by rfl) m5 rfl) pa_nil))) (pa_cons (pe_callB (r := rIsiE K) call_isiE (by rfl) n_isi PyProof.Rows.boot_isinstance (pa_cons (pv 2) (pa_cons (pe_bltn (v := .ty "ValueError") (by rfl) n_ve boot_ve rfl) pa_nil))) pa_nil)))))))))
      (pss_one (ps_ret (pv 1))))), ?_⟩
    refine ⟨_, rfl, t, rfl, hlen, hok, hsl, fun n ps hr v H1 s1 hp => ?_, fun hno o H1 s1 => ?_⟩
    · exact ⟨_, rfl, k n ps hr v H1 s1 hp⟩
    · refine ⟨C1, rfl, X.caught, fun x hx => ?_⟩
      refine ⟨_, rfl, x, C1, _, true, rfl, upd_same, X.cls, .inl ⟨C1, rfl, X.k1⟩, _, rfl, x, C1, _, false, rfl, upd_same, X.cls, .inl ⟨C2, rfl, X.k2⟩, _, rfl, x, C1, _, false, rfl, upd_same, X.cls, .inl ⟨C3, rfl, X.k3⟩, _, rfl, x, C1, _, false, rfl, upd_same, X.cls, .inl ⟨C4, rfl, X.k4⟩, by show 4 ≤ sizeLine; decide, fun l1 hl1 => ?_⟩
      have e1 : (upd (upd H1 x (.ext (ExcAt x C1))) l1 (.lst [.bl true, .bl false, .bl false, .bl false])) x = some (.ext (ExcAt x C1)) := (same_upd hl1) _ _ upd_same
      refine ⟨_, rfl, _, rfl, x, C1, _, false, rfl, e1, X.cls, .inl ⟨C5, rfl, X.k5⟩, _, rfl, x, C1, _, true, rfl, e1, X.cls, .inr ⟨"ValueError", rfl, X.k6⟩, by show 2 ≤ sizeLine; decide, fun l2 hl2 => ?_⟩
      refine ⟨l1, l2, _, _, rfl, rfl, (same_upd hl2) _ _ upd_same, upd_same, by show 6 ≤ sizeLine; decide, fun l3 hl3 => ?_⟩
      refine ⟨_, rfl, kE hno l3 _ ((((s1.trans (same_upd hx)).trans (same_upd hl1)).trans (same_upd hl2)).trans (same_upd hl3)) upd_same⟩
end
end My
namespace My
open PySem L2 Pl
theorem reads_uniq {t : Str} {n m : Nat} {ps qs : List (Nat × Nat)} (h : Reads t n ps) (g : Reads t m qs) : n = m ∧ ps = qs := by
  obtain ⟨h1, h2, h3, _⟩ := h
  obtain ⟨g1, g2, g3, _⟩ := g
  rw [h1] at g1
  injection g1 with a b
  exact ⟨nS_inj h2 g2 (app_co_inj (show nS n ++ co = nS m ++ co from a)), wPs_inj h3 g3 b⟩
theorem nS_asc : ∀ n, n ≤ 60 → asc (nS n) := by
  have : ∀ n, n ≤ 60 → (nS n).cps.toList.all (fun c => decide (c < 128)) = true := by decide +kernel
  intro n hn c hc
  exact of_decide_eq_true (List.all_eq_true.mp (this n hn) c hc)
theorem sg_asc : asc co ∧ asc hy ∧ asc sp := by
  refine ⟨?_, ?_, ?_⟩
  · rw [co_is]; intro c hc; have : c = 58 := (by simpa using hc); omega
  · rw [hy_is]; intro c hc; have : c = 45 := (by simpa using hc); omega
  · rw [sp_is]; intro c hc; have : c = 32 := (by simpa using hc); omega
theorem foldT_asc {n : Nat} (h : n ≤ 60) : ∀ {ps : List (Nat × Nat)}, (∀ p ∈ ps, p.1 ≤ 60 ∧ p.2 ≤ 60) → asc (foldT (wN n) ps) := by
  intro ps
  induction ps using snoc_ind with
  | h0 => intro _; exact asc_app.mpr ⟨nS_asc n h, sg_asc.1⟩
  | h1 l p ih =>
    intro hp
    have h2 := hp p (by simp)
    rw [foldT_snoc]
    exact asc_app.mpr ⟨asc_app.mpr ⟨asc_app.mpr ⟨asc_app.mpr ⟨ih fun q hq => hp q (List.mem_append_left _ hq), sg_asc.2.2⟩, nS_asc _ h2.1⟩, sg_asc.2.1⟩, nS_asc _ h2.2⟩
theorem foldT_cnt {n : Nat} {ps : List (Nat × Nat)} (h : n ≤ 60) (hp : ∀ p ∈ ps, p.1 ≤ 60 ∧ p.2 ≤ 60) : (foldT (wN n) ps).cps.toList.count 32 = ps.length := by
  have a := split_count (foldT (wN n) ps) 32
  rw [← sp_is, split_text h hp, List.length_cons, List.length_map] at a
  omega
theorem fine_split {t x : Str} {m : Nat} (h : Fine t x) (hc : t.cps.toList.count 32 ≤ 30) (hl : t.length ≤ 400) : x.length ≤ 10000 ∧ (Txt.split x sp).length ≤ 61 := by
  have a := split_count x 32
  have b := h.cnt
  have c := h.len
  rw [sp_is]
  exact ⟨by omega, by omega⟩
section
variable {P : Program} {w : World} {K : PySem.W.Frag} {mg : Str → Option Value} {base : Heap}
/-! ### the law -/
def spLaw (K : PySem.W.Frag) : Sp := fun vs H Q _ => ∃ (a : Addr) (ns : List Int), vs = [.ref a] ∧ SqL K H a (ns.map V.int) ∧ ns.length ≤ 63 ∧ ∀ H', Q (.bl true) H'
theorem scLaw : FnScope ["script", "pairing", "text", "k", "spoiled", "due", "found"] ["script"] (defScope sLaw) := ⟨rfl, rfl, rfl, by decide +kernel, rfl, by decide +kernel, by decide +kernel⟩
theorem ok_law {f fOw fDr fSp fCe fDu fTo fIp : Addr} {fd fdOw fdDr fdSp fdCe fdDu fdTo fdIp : FuncData} (G : Glb K mg "law" ["script"] sLaw f fd) (GOw : Glb K mg "_law_of_walk" ["walk"] sOfWalk fOw fdOw) (GDr : Glb K mg "_law_drawn" ["script", "start", "most"] sDrawn fDr fdDr) (GSp : Glb K mg "_law_spoiled" ["text", "cell"] sSpoiled fSp fdSp) (GCe : Glb K mg "_law_cell_at" ["script", "k"] sCell fCe fdCe) (GDu : Glb K mg "_law_due" ["text"] sLDue fDu fdDu) (GTo : Glb K mg "_law_told" ["text"] sLTold fTo fdTo) (GIp : Glb K mg "_law_is_pairing" ["found", "due"] sIsPairing fIp fdIp)
    (FOw : FnOk P w K mg base CX0 5 fOw fdOw ["walk"] spOfWalk) (FDr : FnOk P w K mg base CX0 5 fDr fdDr ["script", "start", "most"] (spDrawn K)) (FSp : FnOk P w K mg base CX0 5 fSp fdSp ["text", "cell"] spSpoil) (FCe : FnOk P w K mg base CX0 5 fCe fdCe ["script", "k"] (spCell K)) (FDu : FnOk P w K mg base CX0 5 fDu fdDu ["text"] spLDue) (FTo : FnOk P w K mg base CX0 5 fTo fdTo ["text"] spTold) (FIp : FnOk P w K mg base CX0 5 fIp fdIp ["found", "due"] spIsPairing) (n_range : mg "range" = none) (n_str : mg "str" = none) : FnOk P w K mg base CX0 6 f fd ["script"] (spLaw K) := by
  refine G.fn.ok scLaw (fun vs H Q E h => ?_) (fun cdv A outer s H vs Q E hr h => ?_)
  · obtain ⟨a, ns, rfl, _⟩ := h; rfl
  · obtain ⟨a, ns, rfl, hS, hlen, k⟩ := h
    have nd := scLaw.nd
    have hu := hr.units
    refine ⟨_, (pss_cons (ps_set (i := 1) nd rfl (Or.inl rfl) (pe_call FOw hr rfl GOw.mgf GOw.fn.kp GOw.bd .nil pass0 (pa_cons (pe_call FDr hr rfl GDr.mgf GDr.fn.kp GDr.bd .nil pass0 (pa_cons (pv 0) (pa_cons pe_int (pa_cons pe_int pa_nil)))) pa_nil)))
      (pss_cons (ps_set (i := 2) nd rfl (Or.inl rfl) (pe_bm PySem.F.plainAttrs_str PySem.F.slot_str_join PySem.F.type_str_join mt_join pe_str (pa_cons (pe_op op_cat (pe_lst (pa_cons (pe_op op_add_str (pe_callTy call_str_int (by rfl) n_str PyProof.Rows.boot_str (pa_cons (pe_ix ix_tup (pv 1) pe_int (fun _ _ => rfl)) pa_nil)) pe_str) pa_nil)) (pe_comp (js := []) (ys := []) (cl := []) (by exact ⟨rfl, by decide +kernel, by decide +kernel, rfl, rfl, .nil, (fun _ _ h => nomatch h), has_of (List.forall_mem_cons.mpr ⟨(fun z => by rcases z with z | z <;> cases z), List.forall_mem_cons.mpr ⟨(fun z => by rcases z with z | z <;> cases z), List.forall_mem_cons.mpr ⟨(fun z => by rcases z with z | z <;> cases z), (fun _ h => nomatch h)⟩⟩⟩), by decide +kernel⟩) rfl (pi_tup (pe_ix ix_tup (pv 1) pe_int (fun _ _ => rfl))) (fun C s H fp => pif_nil) (fun C s H fp => (pe_op op_add_str (pe_op op_add_str (pe_callTy call_str_int (by rfl) n_str PyProof.Rows.boot_str (pa_cons (pe_ix (r := rIxT K) ix_tup (pv 0) pe_int (fun _ _ => rfl)) pa_nil)) pe_str) (pe_callTy call_str_int (by rfl) n_str PyProof.Rows.boot_str (pa_cons (pe_ix (r := rIxT K) ix_tup (pv 0) pe_int (fun _ _ => rfl)) pa_nil)))))) pa_nil)))
      (pss_cons (ps_for PassesOwn.never rfl (pi_range1 rfl n_range (pa_cons pe_int pa_nil)) (pg_name (i := 3) nd rfl (Or.inl rfl)) (pss_cons (ps_set (i := 4) nd rfl (Or.inl rfl) (pe_call FSp hr rfl GSp.mgf GSp.fn.kp GSp.bd .nil pass0 (pa_cons (pv 2) (pa_cons (pe_call FCe hr rfl GCe.mgf GCe.fn.kp GCe.bd .nil pass0 (pa_cons (pv 0) (pa_cons (pe_op op_add pe_int (pv 3)) pa_nil))) pa_nil))))
      (pss_cons (ps_set (i := 5) nd rfl (Or.inl rfl) (pe_call FDu hr rfl GDu.mgf GDu.fn.kp GDu.bd .nil pass0 (pa_cons (pv 4) pa_nil)))
      (pss_cons (ps_set (i := 6) nd rfl (Or.inl rfl) (pe_call FTo hr rfl GTo.mgf GTo.fn.kp GTo.bd .nil pass0 (pa_cons (pv 4) pa_nil)))
      (pss_one (ps_if (pt_cmp (pc_isN (pv 5))) (pss_one (ps_if (pt_cmpR (op_neD hu) (pv 6) (pe_lst (pa_cons pe_bl (pa_cons pe_bl (pa_cons pe_bl (pa_cons pe_bl (pa_cons pe_bl (pa_cons pe_bl pa_nil))))))) (nomark _)) (pss_one (ps_ret pe_bl)) pss_nil)) (pss_one (ps_if (pt_not (pt_val (pe_call FIp hr rfl GIp.mgf GIp.fn.kp GIp.bd .nil pass0 (pa_cons (pv 6) (pa_cons (pv 5) pa_nil))))) (pss_one (ps_ret pe_bl)) pss_nil))))))))
      (pss_one (ps_ret pe_bl))))), ?_⟩
    refine ⟨_, rfl, a, ns, 0, 12, rfl, hS, by decide, fun l ws H1 h1 hw h60 hl s1 => ⟨l, ws, rfl, hl, hw, h60, fun v ps H2 s2 hp hperm hsort => ?_⟩⟩
    have hprs : Prs ws.length ps := hw.prs.perm hperm
    have hpl2 : 2 * ps.length ≤ ws.length := hprs.two
    have hpl : ps.length ≤ 30 := by omega
    have hle : ∀ p ∈ ps, p.1 ≤ 60 ∧ p.2 ≤ 60 := fun p hp => by have := hprs.pr p hp; omega
    have e1 : co.length = 1 := by decide +kernel
    have e2 : hy.length = 1 := by decide +kernel
    have e3 : sp.length = 1 := by decide +kernel
    have hn := nS_ok ws.length h60
    obtain ⟨t, tp, qs, rfl, ht, htp, hq⟩ := id hp
    have hql := PySem.Paired.length hq
    -- the text
    refine ⟨rfl, _, rfl, t, _, 0, _, rfl, rfl, SqT.of ht, rfl, (ws.length : Int), rfl, small_log h60, nS ws.length, co, rfl, rfl, by rw [sizeLine_eq]; omega, by show 1 ≤ sizeLine; decide, fun lw hlw => ?_⟩
    have s3 : Same H2 (upd H2 lw (.lst [.str (nS ws.length ++ co)])) := same_upd hlw
    refine ⟨_, rfl, t, _, 1, _, rfl, rfl, SqT.of (s3 _ _ ht), rfl, tp, rfl, ⟨qs, SqT.of (s3 _ _ htp)⟩, fun D hD => ?_⟩
    refine comp_data (xs := qs) (ds := ps) (fun _ => true) wP (fun _ u y => u = V.str y) hql (small1000 (by omega)) hD (fun _ _ _ _ _ h => h) (fun _ _ _ _ _ _ _ h => h)
      (fun i H' hi s => ⟨_, _, s.sqT (SqT.of (s3 _ _ htp)), List.getElem?_eq_getElem hi⟩) (fun i H' x H'' hi s y => ⟨y.1, y.2 _ (s.sqT (SqT.of (s3 _ _ htp)))⟩) (fun H' s => ⟨_, s.sqT (SqT.of (s3 _ _ htp)), Nat.le_refl _⟩)
      (fun i x p hx hp2 H' s' _ R hR hN => ?_) fun H4 ys hys hpy s4 => ?_
    · obtain ⟨p', hp', b, rfl, hb⟩ := paired_get hq hx
      rw [hp2] at hp'
      cases hp'
      have hpm := hle p (List.mem_of_getElem? hp2)
      have a1 := nS_ok p.1 hpm.1
      have a2 := nS_ok p.2 hpm.2
      have hb' := s' _ _ (s3 _ _ hb)
      refine yes_then ⟨_, rfl, b, _, 0, _, rfl, rfl, SqT.of hb', rfl, (p.1 : Int), rfl, small_log hpm.1, nS p.1, hy, rfl, rfl, by rw [sizeLine_eq]; omega, ?_⟩
      exact ⟨_, rfl, b, _, 1, _, rfl, rfl, SqT.of hb', rfl, (p.2 : Int), rfl, small_log hpm.2, nS p.1 ++ hy, nS p.2, rfl, rfl, by rw [sizeLine_eq, len_app]; omega, hR rfl _ H' (Same.refl _) rfl⟩
    rw [List.filter_eq_self.mpr (fun _ _ => rfl)] at hpy
    have ey : ys = (ps.map wP).map V.str := by
      clear hys
      generalize ps.map wP = zs at hpy
      induction hpy with
      | nil => rfl
      | cons a _ ih => rw [List.map_cons, a, ih]
    rw [ey] at hys
    have nD : lw ≠ D := fun z => by rw [← z, upd_same] at hD; cases hD
    refine ⟨lw, D, _, _, rfl, rfl, s4 _ _ upd_same, hys, by rw [sizeLine_eq, List.length_map, List.length_map]; show 1 + _ ≤ _; omega, fun lx hlx => ?_⟩
    refine ⟨sp, lx, wN ws.length :: ps.map wP, rfl, rfl, SqL.of upd_same, ?_, ?_⟩
    · unfold JoinOk
      rw [Bool.not_eq_true']
      refine StrLaws.joinFits (B := 5) (fun y hy' => ?_) ?_
      · rcases List.mem_cons.mp hy' with e | hy'
        · rw [e]; have := (wN_ok h60).1; omega
        · obtain ⟨p, hp, rfl⟩ := List.mem_map.mp hy'
          exact (wP_ok (hle p hp).1 (hle p hp).2).1
      · rw [List.length_cons, List.length_map, e3]
        omega
    have ej : Txt.join sp (wN ws.length :: ps.map wP) = foldT (wN ws.length) ps := by
      rw [← fold_join]
      exact StrLaws.glued_eq_join _ _
    rw [ej]
    have sL : Same H (upd H4 lx (.lst (V.str (nS ws.length ++ co) :: (ps.map wP).map V.str))) := ((s1.trans s2).trans (s3.trans s4)).trans (same_upd hlx)
    obtain ⟨T, hT⟩ : ∃ T, T = foldT (wN ws.length) ps := ⟨_, rfl⟩
    have hTa : asc T := by rw [hT]; exact foldT_asc h60 hle
    have hTl : T.length ≤ 400 := by rw [hT]; have := foldT_len h60 hle; omega
    have hTc : T.cps.toList.count 32 ≤ 30 := by rw [hT, foldT_cnt h60 hle]; exact hpl
    rw [← hT]
    refine ⟨5, rfl, by decide, by decide, for_range (n := 5) (lo := 0) (fun i σ H5 => ∃ (w3 w4 w5 w6 : Option V), σ = [some (.ref a), some (.ref t), some (.str T), w3, w4, w5, w6] ∧ Same H H5) ?_ ?_ ?_⟩
    · exact ⟨none, none, none, none, rfl, sL⟩
    · rintro i σ H5 hi ⟨w3, w4, w5, w6, rfl, g⟩
      refine ⟨_, rfl, _, rfl, _, rfl, _, _, rfl, rfl, a, ns, 2 + i, by show [V.ref a, V.int ((2 : Int) + ((0 : Int) + (i : Int)))] = [V.ref a, V.int ((2 + i : Nat) : Int)]; rw [show (2 : Int) + (0 + (i : Int)) = ((2 + i : Nat) : Int) by omega], g.seq hS, fun c => ?_⟩
      refine ⟨T, c, rfl, hTa, hTl, fun x H6 hx s6 => ?_⟩
      obtain ⟨hx1, hx2⟩ := fine_split (m := 0) hx hTc hTl
      refine ⟨_, rfl, x, rfl, hx.asc, hx1, hx2, fun n qs' hR v5 H7 s7 hp7 => ?_, fun hno H7 s7 => ?_⟩
      · refine ⟨_, rfl, x, rfl, hx1, asc_okT hx.asc, hx2, fun n' qs2 hR2 v6 H8 s8 hp8 => ?_, fun z => absurd hR (z _ _)⟩
        obtain ⟨rfl, rfl⟩ := reads_uniq hR hR2
        obtain ⟨a7, _, _, rfl, _⟩ := id hp7
        refine ⟨_, rfl, _, rfl, ite2 (fun q => absurd (of_decide_eq_true q) (by intro e; cases e)) (fun _ => ?_)⟩
        refine ⟨_, rfl, _, rfl, v6, .ref a7, _, qs', rfl, hp8, hp7.same s8, true, rfl, iteF ?_⟩
        exact ⟨_, _, _, _, rfl, ((g.trans s6).trans s7).trans s8⟩
      · refine ⟨_, rfl, x, rfl, hx1, asc_okT hx.asc, hx2, fun n' qs2 hR2 => absurd hR2 (hno _ _), fun _ l8 H8 s8 h8 => ?_⟩
        refine ⟨_, rfl, _, rfl, ite2 (fun _ => ?_) (fun q => absurd (decide_eq_true rfl) q)⟩
        refine ⟨_, rfl, by show 6 ≤ sizeLine; decide, fun l9 hl9 => ?_⟩
        refine ⟨.list [.bool true, .bool false, .bool false, .bool false, .bool false, .bool true], .list [.bool true, .bool false, .bool false, .bool false, .bool false, .bool true], .lst (SqL.of ((same_upd hl9) _ _ h8)) six_rp, .lst (SqL.of upd_same) six_rp, rfl, rfl, by decide, false, rfl, iteF ?_⟩
        exact ⟨_, _, _, _, rfl, (((g.trans s6).trans s7).trans s8).trans (same_upd hl9)⟩
    · rintro σ H5 ⟨w3, w4, w5, w6, rfl, g⟩
      exact k _
end
end My
namespace My
open PySem L2 Pl
theorem cls_of {K : PySem.W.Frag} {C : Addr} {b : Value} (h : PySem.W.mroIn K C b = some true) : (PySem.W.clsIn K C).isSome = true := by
  obtain ⟨cd, e, _⟩ := Option.bind_eq_some_iff.mp h
  rw [e]
  rfl
theorem all_mk {l : PySem.W.OpenLaw} {w : World} {K : PySem.W.Frag} {h : Heap} {mg : Str → Option Value} {fa : Addr} (X : K.In h) (G : h.Ns mainGlobals mg) (hfa : mg "law" = some (.ref fa))
    {f0 : Addr} {od0 an0 : Option Addr} {sl0 : Array (Option Value)} {oc0 kV0 dc0 pm0 cd0 ct0 : Value}
    (a0 : PySem.W.nsIn K mainGlobals "looked" = some (some (.ref f0))) (l0 : K.lookup f0 = some ⟨oc0, od0, .func (PySem.W.fnOf "looked" "looked" (defArgs sLooked) (defBody sLooked) (defScope sLooked) .none kV0 dc0 pm0 an0 cd0 ct0), sl0⟩) (c0 : PySem.W.codeIn K cd0 "looked" = true) (k0 : PySem.W.keepIn K (.ref f0) = true)
    {f1 : Addr} {od1 an1 : Option Addr} {sl1 : Array (Option Value)} {oc1 kV1 dc1 pm1 cd1 ct1 : Value}
    (a1 : PySem.W.nsIn K mainGlobals "refuse_wrong_points" = some (some (.ref f1))) (l1 : K.lookup f1 = some ⟨oc1, od1, .func (PySem.W.fnOf "refuse_wrong_points" "refuse_wrong_points" (defArgs sRWrong) (defBody sRWrong) (defScope sRWrong) .none kV1 dc1 pm1 an1 cd1 ct1), sl1⟩) (c1 : PySem.W.codeIn K cd1 "refuse_wrong_points" = true) (k1 : PySem.W.keepIn K (.ref f1) = true)
    {f2 : Addr} {od2 an2 : Option Addr} {sl2 : Array (Option Value)} {oc2 kV2 dc2 pm2 cd2 ct2 : Value}
    (a2 : PySem.W.nsIn K mainGlobals "refuse_shared_points" = some (some (.ref f2))) (l2 : K.lookup f2 = some ⟨oc2, od2, .func (PySem.W.fnOf "refuse_shared_points" "refuse_shared_points" (defArgs sRShared) (defBody sRShared) (defScope sRShared) .none kV2 dc2 pm2 an2 cd2 ct2), sl2⟩) (c2 : PySem.W.codeIn K cd2 "refuse_shared_points" = true) (k2 : PySem.W.keepIn K (.ref f2) = true)
    {f3 : Addr} {od3 an3 : Option Addr} {sl3 : Array (Option Value)} {oc3 kV3 dc3 pm3 cd3 ct3 : Value}
    (a3 : PySem.W.nsIn K mainGlobals "refuse_unsorted" = some (some (.ref f3))) (l3 : K.lookup f3 = some ⟨oc3, od3, .func (PySem.W.fnOf "refuse_unsorted" "refuse_unsorted" (defArgs sRUnsorted) (defBody sRUnsorted) (defScope sRUnsorted) .none kV3 dc3 pm3 an3 cd3 ct3), sl3⟩) (c3 : PySem.W.codeIn K cd3 "refuse_unsorted" = true) (k3 : PySem.W.keepIn K (.ref f3) = true)
    {f4 : Addr} {od4 an4 : Option Addr} {sl4 : Array (Option Value)} {oc4 kV4 dc4 pm4 cd4 ct4 : Value}
    (a4 : PySem.W.nsIn K mainGlobals "points_in" = some (some (.ref f4))) (l4 : K.lookup f4 = some ⟨oc4, od4, .func (PySem.W.fnOf "points_in" "points_in" (defArgs sPointsIn) (defBody sPointsIn) (defScope sPointsIn) .none kV4 dc4 pm4 an4 cd4 ct4), sl4⟩) (c4 : PySem.W.codeIn K cd4 "points_in" = true) (k4 : PySem.W.keepIn K (.ref f4) = true)
    {f5 : Addr} {od5 an5 : Option Addr} {sl5 : Array (Option Value)} {oc5 kV5 dc5 pm5 cd5 ct5 : Value}
    (a5 : PySem.W.nsIn K mainGlobals "read" = some (some (.ref f5))) (l5 : K.lookup f5 = some ⟨oc5, od5, .func (PySem.W.fnOf "read" "read" (defArgs sRead) (defBody sRead) (defScope sRead) .none kV5 dc5 pm5 an5 cd5 ct5), sl5⟩) (c5 : PySem.W.codeIn K cd5 "read" = true) (k5 : PySem.W.keepIn K (.ref f5) = true)
    {f6 : Addr} {od6 an6 : Option Addr} {sl6 : Array (Option Value)} {oc6 kV6 dc6 pm6 cd6 ct6 : Value}
    (a6 : PySem.W.nsIn K mainGlobals "points_in_word" = some (some (.ref f6))) (l6 : K.lookup f6 = some ⟨oc6, od6, .func (PySem.W.fnOf "points_in_word" "points_in_word" (defArgs sPointsInWord) (defBody sPointsInWord) (defScope sPointsInWord) .none kV6 dc6 pm6 an6 cd6 ct6), sl6⟩) (c6 : PySem.W.codeIn K cd6 "points_in_word" = true) (k6 : PySem.W.keepIn K (.ref f6) = true)
    {f7 : Addr} {od7 an7 : Option Addr} {sl7 : Array (Option Value)} {oc7 kV7 dc7 pm7 cd7 ct7 : Value}
    (a7 : PySem.W.nsIn K mainGlobals "pair_in_word" = some (some (.ref f7))) (l7 : K.lookup f7 = some ⟨oc7, od7, .func (PySem.W.fnOf "pair_in_word" "pair_in_word" (defArgs sPairInWord) (defBody sPairInWord) (defScope sPairInWord) .none kV7 dc7 pm7 an7 cd7 ct7), sl7⟩) (c7 : PySem.W.codeIn K cd7 "pair_in_word" = true) (k7 : PySem.W.keepIn K (.ref f7) = true)
    {f8 : Addr} {od8 an8 : Option Addr} {sl8 : Array (Option Value)} {oc8 kV8 dc8 pm8 cd8 ct8 : Value}
    (a8 : PySem.W.nsIn K mainGlobals "number_in_word" = some (some (.ref f8))) (l8 : K.lookup f8 = some ⟨oc8, od8, .func (PySem.W.fnOf "number_in_word" "number_in_word" (defArgs sNumberInWord) (defBody sNumberInWord) (defScope sNumberInWord) .none kV8 dc8 pm8 an8 cd8 ct8), sl8⟩) (c8 : PySem.W.codeIn K cd8 "number_in_word" = true) (k8 : PySem.W.keepIn K (.ref f8) = true)
    {f9 : Addr} {od9 an9 : Option Addr} {sl9 : Array (Option Value)} {oc9 kV9 dc9 pm9 cd9 ct9 : Value}
    (a9 : PySem.W.nsIn K mainGlobals "_law_cell_at" = some (some (.ref f9))) (l9 : K.lookup f9 = some ⟨oc9, od9, .func (PySem.W.fnOf "_law_cell_at" "_law_cell_at" (defArgs sCell) (defBody sCell) (defScope sCell) .none kV9 dc9 pm9 an9 cd9 ct9), sl9⟩) (c9 : PySem.W.codeIn K cd9 "_law_cell_at" = true) (k9 : PySem.W.keepIn K (.ref f9) = true)
    {f10 : Addr} {od10 an10 : Option Addr} {sl10 : Array (Option Value)} {oc10 kV10 dc10 pm10 cd10 ct10 : Value}
    (a10 : PySem.W.nsIn K mainGlobals "_law_whole" = some (some (.ref f10))) (l10 : K.lookup f10 = some ⟨oc10, od10, .func (PySem.W.fnOf "_law_whole" "_law_whole" (defArgs sWhole) (defBody sWhole) (defScope sWhole) .none kV10 dc10 pm10 an10 cd10 ct10), sl10⟩) (c10 : PySem.W.codeIn K cd10 "_law_whole" = true) (k10 : PySem.W.keepIn K (.ref f10) = true)
    {f11 : Addr} {od11 an11 : Option Addr} {sl11 : Array (Option Value)} {oc11 kV11 dc11 pm11 cd11 ct11 : Value}
    (a11 : PySem.W.nsIn K mainGlobals "_law_choice" = some (some (.ref f11))) (l11 : K.lookup f11 = some ⟨oc11, od11, .func (PySem.W.fnOf "_law_choice" "_law_choice" (defArgs sChoice) (defBody sChoice) (defScope sChoice) .none kV11 dc11 pm11 an11 cd11 ct11), sl11⟩) (c11 : PySem.W.codeIn K cd11 "_law_choice" = true) (k11 : PySem.W.keepIn K (.ref f11) = true)
    {f12 : Addr} {od12 an12 : Option Addr} {sl12 : Array (Option Value)} {oc12 kV12 dc12 pm12 cd12 ct12 : Value}
    (a12 : PySem.W.nsIn K mainGlobals "_law_walk" = some (some (.ref f12))) (l12 : K.lookup f12 = some ⟨oc12, od12, .func (PySem.W.fnOf "_law_walk" "_law_walk" (defArgs sWalk) (defBody sWalk) (defScope sWalk) .none kV12 dc12 pm12 an12 cd12 ct12), sl12⟩) (c12 : PySem.W.codeIn K cd12 "_law_walk" = true) (k12 : PySem.W.keepIn K (.ref f12) = true)
    {f13 : Addr} {od13 an13 : Option Addr} {sl13 : Array (Option Value)} {oc13 kV13 dc13 pm13 cd13 ct13 : Value}
    (a13 : PySem.W.nsIn K mainGlobals "_law_of_walk" = some (some (.ref f13))) (l13 : K.lookup f13 = some ⟨oc13, od13, .func (PySem.W.fnOf "_law_of_walk" "_law_of_walk" (defArgs sOfWalk) (defBody sOfWalk) (defScope sOfWalk) .none kV13 dc13 pm13 an13 cd13 ct13), sl13⟩) (c13 : PySem.W.codeIn K cd13 "_law_of_walk" = true) (k13 : PySem.W.keepIn K (.ref f13) = true)
    {f14 : Addr} {od14 an14 : Option Addr} {sl14 : Array (Option Value)} {oc14 kV14 dc14 pm14 cd14 ct14 : Value}
    (a14 : PySem.W.nsIn K mainGlobals "_law_points" = some (some (.ref f14))) (l14 : K.lookup f14 = some ⟨oc14, od14, .func (PySem.W.fnOf "_law_points" "_law_points" (defArgs sPoints) (defBody sPoints) (defScope sPoints) .none kV14 dc14 pm14 an14 cd14 ct14), sl14⟩) (c14 : PySem.W.codeIn K cd14 "_law_points" = true) (k14 : PySem.W.keepIn K (.ref f14) = true)
    {f15 : Addr} {od15 an15 : Option Addr} {sl15 : Array (Option Value)} {oc15 kV15 dc15 pm15 cd15 ct15 : Value}
    (a15 : PySem.W.nsIn K mainGlobals "_law_drawn" = some (some (.ref f15))) (l15 : K.lookup f15 = some ⟨oc15, od15, .func (PySem.W.fnOf "_law_drawn" "_law_drawn" (defArgs sDrawn) (defBody sDrawn) (defScope sDrawn) .none kV15 dc15 pm15 an15 cd15 ct15), sl15⟩) (c15 : PySem.W.codeIn K cd15 "_law_drawn" = true) (k15 : PySem.W.keepIn K (.ref f15) = true)
    {f16 : Addr} {od16 an16 : Option Addr} {sl16 : Array (Option Value)} {oc16 kV16 dc16 pm16 cd16 ct16 : Value}
    (a16 : PySem.W.nsIn K mainGlobals "_law_is_pairing" = some (some (.ref f16))) (l16 : K.lookup f16 = some ⟨oc16, od16, .func (PySem.W.fnOf "_law_is_pairing" "_law_is_pairing" (defArgs sIsPairing) (defBody sIsPairing) (defScope sIsPairing) .none kV16 dc16 pm16 an16 cd16 ct16), sl16⟩) (c16 : PySem.W.codeIn K cd16 "_law_is_pairing" = true) (k16 : PySem.W.keepIn K (.ref f16) = true)
    {f17 : Addr} {od17 an17 : Option Addr} {sl17 : Array (Option Value)} {oc17 kV17 dc17 pm17 cd17 ct17 : Value}
    (a17 : PySem.W.nsIn K mainGlobals "_law_number" = some (some (.ref f17))) (l17 : K.lookup f17 = some ⟨oc17, od17, .func (PySem.W.fnOf "_law_number" "_law_number" (defArgs sLNumber) (defBody sLNumber) (defScope sLNumber) .none kV17 dc17 pm17 an17 cd17 ct17), sl17⟩) (c17 : PySem.W.codeIn K cd17 "_law_number" = true) (k17 : PySem.W.keepIn K (.ref f17) = true)
    {f18 : Addr} {od18 an18 : Option Addr} {sl18 : Array (Option Value)} {oc18 kV18 dc18 pm18 cd18 ct18 : Value}
    (a18 : PySem.W.nsIn K mainGlobals "_law_due" = some (some (.ref f18))) (l18 : K.lookup f18 = some ⟨oc18, od18, .func (PySem.W.fnOf "_law_due" "_law_due" (defArgs sLDue) (defBody sLDue) (defScope sLDue) .none kV18 dc18 pm18 an18 cd18 ct18), sl18⟩) (c18 : PySem.W.codeIn K cd18 "_law_due" = true) (k18 : PySem.W.keepIn K (.ref f18) = true)
    {f19 : Addr} {od19 an19 : Option Addr} {sl19 : Array (Option Value)} {oc19 kV19 dc19 pm19 cd19 ct19 : Value}
    (a19 : PySem.W.nsIn K mainGlobals "_law_odd" = some (some (.ref f19))) (l19 : K.lookup f19 = some ⟨oc19, od19, .func (PySem.W.fnOf "_law_odd" "_law_odd" (defArgs sLOdd) (defBody sLOdd) (defScope sLOdd) .none kV19 dc19 pm19 an19 cd19 ct19), sl19⟩) (c19 : PySem.W.codeIn K cd19 "_law_odd" = true) (k19 : PySem.W.keepIn K (.ref f19) = true)
    {f20 : Addr} {od20 an20 : Option Addr} {sl20 : Array (Option Value)} {oc20 kV20 dc20 pm20 cd20 ct20 : Value}
    (a20 : PySem.W.nsIn K mainGlobals "_law_told" = some (some (.ref f20))) (l20 : K.lookup f20 = some ⟨oc20, od20, .func (PySem.W.fnOf "_law_told" "_law_told" (defArgs sLTold) (defBody sLTold) (defScope sLTold) .none kV20 dc20 pm20 an20 cd20 ct20), sl20⟩) (c20 : PySem.W.codeIn K cd20 "_law_told" = true) (k20 : PySem.W.keepIn K (.ref f20) = true)
    {f21 : Addr} {od21 an21 : Option Addr} {sl21 : Array (Option Value)} {oc21 kV21 dc21 pm21 cd21 ct21 : Value}
    (a21 : PySem.W.nsIn K mainGlobals "_law_spoiled" = some (some (.ref f21))) (l21 : K.lookup f21 = some ⟨oc21, od21, .func (PySem.W.fnOf "_law_spoiled" "_law_spoiled" (defArgs sSpoiled) (defBody sSpoiled) (defScope sSpoiled) .none kV21 dc21 pm21 an21 cd21 ct21), sl21⟩) (c21 : PySem.W.codeIn K cd21 "_law_spoiled" = true) (k21 : PySem.W.keepIn K (.ref f21) = true)
    {f22 : Addr} {od22 an22 : Option Addr} {sl22 : Array (Option Value)} {oc22 kV22 dc22 pm22 cd22 ct22 : Value}
    (a22 : PySem.W.nsIn K mainGlobals "law" = some (some (.ref f22))) (l22 : K.lookup f22 = some ⟨oc22, od22, .func (PySem.W.fnOf "law" "law" (defArgs sLaw) (defBody sLaw) (defScope sLaw) .none kV22 dc22 pm22 an22 cd22 ct22), sl22⟩) (c22 : PySem.W.codeIn K cd22 "law" = true) (k22 : PySem.W.keepIn K (.ref f22) = true)
    (z0 : PySem.W.nsIn K mainGlobals "len" = some none)
    (z1 : PySem.W.nsIn K mainGlobals "range" = some none)
    (z2 : PySem.W.nsIn K mainGlobals "list" = some none)
    (z3 : PySem.W.nsIn K mainGlobals "tuple" = some none)
    (z4 : PySem.W.nsIn K mainGlobals "sorted" = some none)
    (z5 : PySem.W.nsIn K mainGlobals "isinstance" = some none)
    (z6 : PySem.W.nsIn K mainGlobals "str" = some none)
    (z7 : PySem.W.nsIn K mainGlobals "int" = some none)
    (z8 : PySem.W.nsIn K mainGlobals "bool" = some none)
    (z9 : PySem.W.nsIn K mainGlobals "set" = some none)
    (z10 : PySem.W.nsIn K mainGlobals "min" = some none)
    (z11 : PySem.W.nsIn K mainGlobals "max" = some none)
    (z12 : PySem.W.nsIn K mainGlobals "ValueError" = some none)
    {tk0 : Tok} {CPairError : Addr} {CNoPairing : Addr} {CNoWalk : Addr} {CNoNumber : Addr} {CTooMany : Addr} {CBadNote : Addr}
    (xc0 : PySem.W.nsIn K mainGlobals "MOST_POINTS" = some (some (.int 60 tk0)))
    (xPairError : PySem.W.nsIn K mainGlobals "PairError" = some (some (.ref CPairError)))
    (xNoPairing : PySem.W.nsIn K mainGlobals "NoPairing" = some (some (.ref CNoPairing)))
    (xNoWalk : PySem.W.nsIn K mainGlobals "NoWalk" = some (some (.ref CNoWalk)))
    (xNoNumber : PySem.W.nsIn K mainGlobals "NoNumber" = some (some (.ref CNoNumber)))
    (xTooMany : PySem.W.nsIn K mainGlobals "TooMany" = some (some (.ref CTooMany)))
    (xBadNote : PySem.W.nsIn K mainGlobals "BadNote" = some (some (.ref CBadNote)))
    (qNoPairing : PySem.W.excIn K CNoPairing bmV "ValueError.__new__" = true)
    (qBadNote : PySem.W.excIn K CBadNote bmV "ValueError.__new__" = true)
    (y2 : PySem.W.findIn K (.ref CBadNote) "__getattribute__" = some (some (.builtin "BaseException.__getattribute__")))
    (y3 : PySem.W.findIn K (.ref CBadNote) "__getattr__" = some none)
    (y4 : PySem.W.findIn K (.ref CBadNote) "__class__" = some (some (.builtin "object.__class__")))
    (y5 : PySem.W.specialIn K (.builtin "object.__class__") "__get__" = some (some (.builtin "getset_descriptor.__get__")))
    (y6 : PySem.W.takesIn K (.builtin "object.__class__") = some true)
    (y7 : PySem.W.mroIn K CBadNote (.type "BaseException") = some true)
    (y8 : PySem.W.mroIn K CBadNote (.type "object") = some true)
    (y9 : PySem.W.typeIn K (.ref CPairError) = some (.type "type"))
    (r2 : PySem.W.mroIn K CPairError (.type "BaseException") = some true)
    (r3 : PySem.W.mroIn K CBadNote (.ref CPairError) = some true)
    (t1 : PySem.W.kitOne K (.ref CBadNote) (.ref CBadNote) = some true)
    (t2 : PySem.W.kitOne K (.ref CBadNote) (.ref CNoPairing) = some false)
    (t3 : PySem.W.kitOne K (.ref CBadNote) (.ref CNoWalk) = some false)
    (t4 : PySem.W.kitOne K (.ref CBadNote) (.ref CNoNumber) = some false)
    (t5 : PySem.W.kitOne K (.ref CBadNote) (.ref CTooMany) = some false)
    (t6 : PySem.W.kitOne K (.ref CBadNote) (.type "ValueError") = some true)
    (u1 : PySem.W.typeIn K (.ref CNoPairing) = some (.type "type"))
    (u2 : PySem.W.mroIn K CNoPairing (.type "BaseException") = some true)
    (u3 : PySem.W.mroIn K CNoPairing (.ref CNoPairing) = some true) :
    ∃ fd : FuncData, (∀ (s : Shared) (v : Value), BindsTo s fd ⟨[v], []⟩ [("script", v)]) ∧ ∀ base : Heap, K.In base → base.Ns mainGlobals mg → FnOk l.prog w K mg base CX0 6 fa fd ["script"] (spLaw K) := by
  have e := hfa.symm.trans (PySem.W.mg_of X G a22)
  cases e
  have FLooked := fun_mk (st := sLooked) l0 c0 k0
  have gLooked : Glb K mg "looked" ["pairing"] sLooked _ _ := ⟨FLooked, PySem.W.mg_of X G a0, FLooked.binds (ps := ["pairing"]) fun _ _ _ _ _ _ us hl => match us, hl with | [_], _ => rfl⟩
  have FRWrong := fun_mk (st := sRWrong) l1 c1 k1
  have gRWrong : Glb K mg "refuse_wrong_points" ["points", "pair"] sRWrong _ _ := ⟨FRWrong, PySem.W.mg_of X G a1, FRWrong.binds (ps := ["points", "pair"]) fun _ _ _ _ _ _ us hl => match us, hl with | [_, _], _ => rfl⟩
  have FRShared := fun_mk (st := sRShared) l2 c2 k2
  have gRShared : Glb K mg "refuse_shared_points" ["pairs"] sRShared _ _ := ⟨FRShared, PySem.W.mg_of X G a2, FRShared.binds (ps := ["pairs"]) fun _ _ _ _ _ _ us hl => match us, hl with | [_], _ => rfl⟩
  have FRUnsorted := fun_mk (st := sRUnsorted) l3 c3 k3
  have gRUnsorted : Glb K mg "refuse_unsorted" ["pairs"] sRUnsorted _ _ := ⟨FRUnsorted, PySem.W.mg_of X G a3, FRUnsorted.binds (ps := ["pairs"]) fun _ _ _ _ _ _ us hl => match us, hl with | [_], _ => rfl⟩
  have FPointsIn := fun_mk (st := sPointsIn) l4 c4 k4
  have gPointsIn : Glb K mg "points_in" ["pairs"] sPointsIn _ _ := ⟨FPointsIn, PySem.W.mg_of X G a4, FPointsIn.binds (ps := ["pairs"]) fun _ _ _ _ _ _ us hl => match us, hl with | [_], _ => rfl⟩
  have FRead := fun_mk (st := sRead) l5 c5 k5
  have gRead : Glb K mg "read" ["text"] sRead _ _ := ⟨FRead, PySem.W.mg_of X G a5, FRead.binds (ps := ["text"]) fun _ _ _ _ _ _ us hl => match us, hl with | [_], _ => rfl⟩
  have FPointsInWord := fun_mk (st := sPointsInWord) l6 c6 k6
  have gPointsInWord : Glb K mg "points_in_word" ["word"] sPointsInWord _ _ := ⟨FPointsInWord, PySem.W.mg_of X G a6, FPointsInWord.binds (ps := ["word"]) fun _ _ _ _ _ _ us hl => match us, hl with | [_], _ => rfl⟩
  have FPairInWord := fun_mk (st := sPairInWord) l7 c7 k7
  have gPairInWord : Glb K mg "pair_in_word" ["word"] sPairInWord _ _ := ⟨FPairInWord, PySem.W.mg_of X G a7, FPairInWord.binds (ps := ["word"]) fun _ _ _ _ _ _ us hl => match us, hl with | [_], _ => rfl⟩
  have FNumberInWord := fun_mk (st := sNumberInWord) l8 c8 k8
  have gNumberInWord : Glb K mg "number_in_word" ["word"] sNumberInWord _ _ := ⟨FNumberInWord, PySem.W.mg_of X G a8, FNumberInWord.binds (ps := ["word"]) fun _ _ _ _ _ _ us hl => match us, hl with | [_], _ => rfl⟩
  have FCell := fun_mk (st := sCell) l9 c9 k9
  have gCell : Glb K mg "_law_cell_at" ["script", "k"] sCell _ _ := ⟨FCell, PySem.W.mg_of X G a9, FCell.binds (ps := ["script", "k"]) fun _ _ _ _ _ _ us hl => match us, hl with | [_, _], _ => rfl⟩
  have FWhole := fun_mk (st := sWhole) l10 c10 k10
  have gWhole : Glb K mg "_law_whole" ["found"] sWhole _ _ := ⟨FWhole, PySem.W.mg_of X G a10, FWhole.binds (ps := ["found"]) fun _ _ _ _ _ _ us hl => match us, hl with | [_], _ => rfl⟩
  have FChoice := fun_mk (st := sChoice) l11 c11 k11
  have gChoice : Glb K mg "_law_choice" ["state", "many"] sChoice _ _ := ⟨FChoice, PySem.W.mg_of X G a11, FChoice.binds (ps := ["state", "many"]) fun _ _ _ _ _ _ us hl => match us, hl with | [_, _], _ => rfl⟩
  have FWalk := fun_mk (st := sWalk) l12 c12 k12
  have gWalk : Glb K mg "_law_walk" ["cell", "points", "plain"] sWalk _ _ := ⟨FWalk, PySem.W.mg_of X G a12, FWalk.binds (ps := ["cell", "points", "plain"]) fun _ _ _ _ _ _ us hl => match us, hl with | [_, _, _], _ => rfl⟩
  have FOfWalk := fun_mk (st := sOfWalk) l13 c13 k13
  have gOfWalk : Glb K mg "_law_of_walk" ["walk"] sOfWalk _ _ := ⟨FOfWalk, PySem.W.mg_of X G a13, FOfWalk.binds (ps := ["walk"]) fun _ _ _ _ _ _ us hl => match us, hl with | [_], _ => rfl⟩
  have FPoints := fun_mk (st := sPoints) l14 c14 k14
  have gPoints : Glb K mg "_law_points" ["cell", "most"] sPoints _ _ := ⟨FPoints, PySem.W.mg_of X G a14, FPoints.binds (ps := ["cell", "most"]) fun _ _ _ _ _ _ us hl => match us, hl with | [_, _], _ => rfl⟩
  have FDrawn := fun_mk (st := sDrawn) l15 c15 k15
  have gDrawn : Glb K mg "_law_drawn" ["script", "start", "most"] sDrawn _ _ := ⟨FDrawn, PySem.W.mg_of X G a15, FDrawn.binds (ps := ["script", "start", "most"]) fun _ _ _ _ _ _ us hl => match us, hl with | [_, _, _], _ => rfl⟩
  have FIsPairing := fun_mk (st := sIsPairing) l16 c16 k16
  have gIsPairing : Glb K mg "_law_is_pairing" ["found", "due"] sIsPairing _ _ := ⟨FIsPairing, PySem.W.mg_of X G a16, FIsPairing.binds (ps := ["found", "due"]) fun _ _ _ _ _ _ us hl => match us, hl with | [_, _], _ => rfl⟩
  have FLNumber := fun_mk (st := sLNumber) l17 c17 k17
  have gLNumber : Glb K mg "_law_number" ["word"] sLNumber _ _ := ⟨FLNumber, PySem.W.mg_of X G a17, FLNumber.binds (ps := ["word"]) fun _ _ _ _ _ _ us hl => match us, hl with | [_], _ => rfl⟩
  have FLDue := fun_mk (st := sLDue) l18 c18 k18
  have gLDue : Glb K mg "_law_due" ["text"] sLDue _ _ := ⟨FLDue, PySem.W.mg_of X G a18, FLDue.binds (ps := ["text"]) fun _ _ _ _ _ _ us hl => match us, hl with | [_], _ => rfl⟩
  have FLOdd := fun_mk (st := sLOdd) l19 c19 k19
  have gLOdd : Glb K mg "_law_odd" ["cell"] sLOdd _ _ := ⟨FLOdd, PySem.W.mg_of X G a19, FLOdd.binds (ps := ["cell"]) fun _ _ _ _ _ _ us hl => match us, hl with | [_], _ => rfl⟩
  have FLTold := fun_mk (st := sLTold) l20 c20 k20
  have gLTold : Glb K mg "_law_told" ["text"] sLTold _ _ := ⟨FLTold, PySem.W.mg_of X G a20, FLTold.binds (ps := ["text"]) fun _ _ _ _ _ _ us hl => match us, hl with | [_], _ => rfl⟩
  have FSpoiled := fun_mk (st := sSpoiled) l21 c21 k21
  have gSpoiled : Glb K mg "_law_spoiled" ["text", "cell"] sSpoiled _ _ := ⟨FSpoiled, PySem.W.mg_of X G a21, FSpoiled.binds (ps := ["text", "cell"]) fun _ _ _ _ _ _ us hl => match us, hl with | [_, _], _ => rfl⟩
  have FLaw := fun_mk (st := sLaw) l22 c22 k22
  have gLaw : Glb K mg "law" ["script"] sLaw _ _ := ⟨FLaw, PySem.W.mg_of X G a22, FLaw.binds (ps := ["script"]) fun _ _ _ _ _ _ us hl => match us, hl with | [_], _ => rfl⟩
  have n_len : mg "len" = none := PySem.W.mg_none_of X G z0
  have n_range : mg "range" = none := PySem.W.mg_none_of X G z1
  have n_list : mg "list" = none := PySem.W.mg_none_of X G z2
  have n_tuple : mg "tuple" = none := PySem.W.mg_none_of X G z3
  have n_sorted : mg "sorted" = none := PySem.W.mg_none_of X G z4
  have n_isinstance : mg "isinstance" = none := PySem.W.mg_none_of X G z5
  have n_str : mg "str" = none := PySem.W.mg_none_of X G z6
  have n_int : mg "int" = none := PySem.W.mg_none_of X G z7
  have n_bool : mg "bool" = none := PySem.W.mg_none_of X G z8
  have n_set : mg "set" = none := PySem.W.mg_none_of X G z9
  have n_min : mg "min" = none := PySem.W.mg_none_of X G z10
  have n_max : mg "max" = none := PySem.W.mg_none_of X G z11
  have n_ValueError : mg "ValueError" = none := PySem.W.mg_none_of X G z12
  have h_MOST_POINTS := PySem.W.mg_of X G xc0
  have m_PairError := PySem.W.mg_of X G xPairError
  have m_NoPairing := PySem.W.mg_of X G xNoPairing
  have m_NoWalk := PySem.W.mg_of X G xNoWalk
  have m_NoNumber := PySem.W.mg_of X G xNoNumber
  have m_TooMany := PySem.W.mg_of X G xTooMany
  have m_BadNote := PySem.W.mg_of X G xBadNote
  have XE : ExcG K mg "BadNote" "NoPairing" "NoWalk" "NoNumber" "TooMany" CPairError CBadNote CNoPairing CNoWalk CNoNumber CTooMany := ⟨m_PairError, m_BadNote, m_NoPairing, m_NoWalk, m_NoNumber, m_TooMany, qBadNote, ⟨cls_of y7, y2, y3, y4, y5, y6, y7, y8⟩, ⟨y9, cls_of r2, r2, r3⟩, t1, t2, t3, t4, t5, t6⟩
  have XC : Caught K CNoPairing CNoPairing := ⟨u1, cls_of u2, u2, u3⟩
  refine ⟨_, ?_, fun base _ _ => ok_law gLaw gOfWalk gDrawn gSpoiled gCell gLDue gLTold gIsPairing ((ok_ofWalk gOfWalk n_len n_range n_tuple n_sorted).mono (by decide)) ((ok_drawn gDrawn gChoice gCell gPoints gWalk n_len n_range n_list).mono (by decide)) ((ok_spoil gSpoiled gLOdd (ok_odd gLOdd n_len) n_len).mono (by decide)) ((ok_cell gCell n_len).mono (by decide)) ((ok_ldue gLDue gLNumber (ok_lnum gLNumber n_len n_int) n_len n_set n_min n_max n_tuple).mono (by decide)) (ok_told gLTold gRead (ok_read gRead gPointsInWord gPairInWord gLooked ((ok_ptsWord gPointsInWord gNumberInWord (ok_numWord gNumberInWord m_BadNote qBadNote h_MOST_POINTS n_range n_str n_int) m_BadNote qBadNote).mono (by decide)) ((ok_pairWord gPairInWord gNumberInWord (ok_numWord gNumberInWord m_BadNote qBadNote h_MOST_POINTS n_range n_str n_int) m_BadNote qBadNote n_len).mono (by decide)) (ok_looked gLooked gRWrong gRShared gRUnsorted ((ok_rWrong gRWrong m_NoPairing qNoPairing).mono (by decide)) (ok_rShared gRShared gPointsIn m_NoPairing qNoPairing n_len) ((ok_rUnsorted gRUnsorted m_NoPairing qNoPairing n_list n_sorted).mono (by decide)) m_NoPairing qNoPairing h_MOST_POINTS n_len) m_NoPairing XC m_BadNote qBadNote n_tuple) XE n_isinstance n_ValueError) ((ok_isPairing gIsPairing gWhole n_isinstance n_int n_bool n_tuple n_len).mono (by decide)) n_range n_str⟩
  exact fun s v => .of_eq rfl
theorem walk {l : PySem.W.OpenLaw} {q : Program} {loose : List Str} {XP : (Str → Option Value) → Heap → Prop} {YP : World → Heap → Prop} {d : DefRec} {K : Params → PySem.W.Frag} (hn : l.most = some 63) (hdf : d.params.defaults = [])
    (hY : ∀ (w : World) (h : Heap), YP w h → (K w.params).In h)
    (F : ∀ (w : World) (mg : Str → Option Value) (fa : Addr) (h : Heap), (K w.params).In h → h.Ns mainGlobals mg → mg d.name = some (.ref fa) →
      ∃ fd : FuncData, (∀ (s : Shared) (u : Value), BindsTo s fd ⟨[u], []⟩ [("script", u)]) ∧ ∀ base : Heap, (K w.params).In base → base.Ns mainGlobals mg → FnOk l.prog w (K w.params) mg base CX0 6 fa fd ["script"] (spLaw (K w.params))) :
    PySem.W.WalkO q loose XP YP l.row.toRowW d [] (fun f vs => PySem.call f vs) :=
  L2.walk_of (n := 63) (k := 6) (x := "script") (CX := fun _ => CX0) (sp := fun w => spLaw (K w.params)) hn (by decide) hdf ⟨rfl, by decide, by decide⟩ hY F (fun _ _ a ns hl _ hS => ⟨a, ns, rfl, hS, hl, fun _ => rfl⟩) fun _ _ _ _ _ z => z
end My
open PySem PySem.W PyProof.Rows
set_option maxRecDepth 100000 in
set_option maxHeartbeats 0 in
theorem PySem.Challenge.cw_pairlings_k15_texts_refused_holds : PySem.Challenge.rw_pairlings_k15_texts_refused.Holds := by
  w_on; o_law; k_head; (case hw => w_witness2)
  k_fill
  refine My.walk (l := PySem.Challenge.rw_pairlings_k15_texts_refused) rfl rfl (fun w h Y => PySem.W.kIn_of Y) ?F
  case F =>
    intro w mg fa h KX G hmg
    refine' My.all_mk KX G hmg ?a0 ?l0 ?c0 ?k0 ?a1 ?l1 ?c1 ?k1 ?a2 ?l2 ?c2 ?k2 ?a3 ?l3 ?c3 ?k3 ?a4 ?l4 ?c4 ?k4 ?a5 ?l5 ?c5 ?k5 ?a6 ?l6 ?c6 ?k6 ?a7 ?l7 ?c7 ?k7 ?a8 ?l8 ?c8 ?k8 ?a9 ?l9 ?c9 ?k9 ?a10 ?l10 ?c10 ?k10 ?a11 ?l11 ?c11 ?k11 ?a12 ?l12 ?c12 ?k12 ?a13 ?l13 ?c13 ?k13 ?a14 ?l14 ?c14 ?k14 ?a15 ?l15 ?c15 ?k15 ?a16 ?l16 ?c16 ?k16 ?a17 ?l17 ?c17 ?k17 ?a18 ?l18 ?c18 ?k18 ?a19 ?l19 ?c19 ?k19 ?a20 ?l20 ?c20 ?k20 ?a21 ?l21 ?c21 ?k21 ?a22 ?l22 ?c22 ?k22 ?z0 ?z1 ?z2 ?z3 ?z4 ?z5 ?z6 ?z7 ?z8 ?z9 ?z10 ?z11 ?z12 ?xc0 ?xPairError ?xNoPairing ?xNoWalk ?xNoNumber ?xTooMany ?xBadNote ?qNoPairing ?qBadNote ?y2 ?y3 ?y4 ?y5 ?y6 ?y7 ?y8 ?y9 ?r2 ?r3 ?t1 ?t2 ?t3 ?t4 ?t5 ?t6 ?u1 ?u2 ?u3
    (case a0 => k_is)
    (case l0 => k_is)
    (case c0 => k_is)
    (case k0 => k_is)
    (case a1 => k_is)
    (case l1 => k_is)
    (case c1 => k_is)
    (case k1 => k_is)
    (case a2 => k_is)
    (case l2 => k_is)
    (case c2 => k_is)
    (case k2 => k_is)
    (case a3 => k_is)
    (case l3 => k_is)
    (case c3 => k_is)
    (case k3 => k_is)
    (case a4 => k_is)
    (case l4 => k_is)
    (case c4 => k_is)
    (case k4 => k_is)
    (case a5 => k_is)
    (case l5 => k_is)
    (case c5 => k_is)
    (case k5 => k_is)
    (case a6 => k_is)
    (case l6 => k_is)
    (case c6 => k_is)
    (case k6 => k_is)
    (case a7 => k_is)
    (case l7 => k_is)
    (case c7 => k_is)
    (case k7 => k_is)
    (case a8 => k_is)
    (case l8 => k_is)
    (case c8 => k_is)
    (case k8 => k_is)
    (case a9 => k_is)
    (case l9 => k_is)
    (case c9 => k_is)
    (case k9 => k_is)
    (case a10 => k_is)
    (case l10 => k_is)
    (case c10 => k_is)
    (case k10 => k_is)
    (case a11 => k_is)
    (case l11 => k_is)
    (case c11 => k_is)
    (case k11 => k_is)
    (case a12 => k_is)
    (case l12 => k_is)
    (case c12 => k_is)
    (case k12 => k_is)
    (case a13 => k_is)
    (case l13 => k_is)
    (case c13 => k_is)
    (case k13 => k_is)
    (case a14 => k_is)
    (case l14 => k_is)
    (case c14 => k_is)
    (case k14 => k_is)
    (case a15 => k_is)
    (case l15 => k_is)
    (case c15 => k_is)
    (case k15 => k_is)
    (case a16 => k_is)
    (case l16 => k_is)
    (case c16 => k_is)
    (case k16 => k_is)
    (case a17 => k_is)
    (case l17 => k_is)
    (case c17 => k_is)
    (case k17 => k_is)
    (case a18 => k_is)
    (case l18 => k_is)
    (case c18 => k_is)
    (case k18 => k_is)
    (case a19 => k_is)
    (case l19 => k_is)
    (case c19 => k_is)
    (case k19 => k_is)
    (case a20 => k_is)
    (case l20 => k_is)
    (case c20 => k_is)
    (case k20 => k_is)
    (case a21 => k_is)
    (case l21 => k_is)
    (case c21 => k_is)
    (case k21 => k_is)
    (case a22 => k_is)
    (case l22 => k_is)
    (case c22 => k_is)
    (case k22 => k_is)
    (case z0 => k_is)
    (case z1 => k_is)
    (case z2 => k_is)
    (case z3 => k_is)
    (case z4 => k_is)
    (case z5 => k_is)
    (case z6 => k_is)
    (case z7 => k_is)
    (case z8 => k_is)
    (case z9 => k_is)
    (case z10 => k_is)
    (case z11 => k_is)
    (case z12 => k_is)
    (case xc0 => k_is)
    (case xPairError => k_is)
    (case xNoPairing => k_is)
    (case xNoWalk => k_is)
    (case xNoNumber => k_is)
    (case xTooMany => k_is)
    (case xBadNote => k_is)
    (case qNoPairing => k_exc)
    (case qBadNote => k_exc)
    (case y2 => k_is)
    (case y3 => k_is)
    (case y4 => k_is)
    (case y5 => k_is)
    (case y6 => k_is)
    (case y7 => k_is)
    (case y8 => k_is)
    (case y9 => k_is)
    (case r2 => k_is)
    (case r3 => k_is)
    (case t1 => kit_is)
    (case t2 => kit_is)
    (case t3 => kit_is)
    (case t4 => kit_is)
    (case t5 => kit_is)
    (case t6 => kit_is)
    (case u1 => k_is)
    (case u2 => k_is)
    (case u3 => k_is)
#print axioms PySem.Challenge.cw_pairlings_k15_texts_refused_holds
